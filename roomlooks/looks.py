"""Looks: what is sure after an outcome, and what can follow it (points [72], [73], [77])."""

from roomlooks.basics import check_outcome, check_room
from roomlooks.sayings import all_sayings, check_saying, known_implies, known_opposite, written


def state_after(book, outcome, saying):
    """Whether a saying is "sure", "out" or "open" after an outcome."""
    check_outcome(book, outcome)
    check_saying(book, saying)
    if known_implies(book, (outcome,), saying):
        return "sure"
    if known_implies(book, (outcome,), known_opposite(book, saying)):
        return "out"
    return "open"


def sure_after(book, outcome):
    """All sayings that are sure after an outcome, in order."""
    check_outcome(book, outcome)
    sayings = all_sayings(book)
    return tuple([saying for saying in sayings if known_implies(book, (outcome,), saying)])


def count_sure(book, outcome):
    """How many sayings are sure after an outcome."""
    check_outcome(book, outcome)
    sizes = [len(book.rooms[room]) for room in book.rooms_of(outcome)]
    return 2 + sum([(1 << (size - 1)) - 2 for size in sizes])


def follows(book, one, other):
    """Whether one known outcome can follow another one."""
    return one == other or book.room_of_two(one, other) is None


def can_follow(book, one, other):
    """Whether the second outcome can follow the first one."""
    check_outcome(book, one)
    check_outcome(book, other)
    return follows(book, one, other)


def next_outcomes(book, outcome, room):
    """The lot of the outcomes of a room that can follow an outcome."""
    check_outcome(book, outcome)
    check_room(book, room, "room")
    return tuple([other for other in book.rooms[room] if follows(book, outcome, other)])


def shown_next(book, outcome, room):
    """What the next look in a room shows in any case."""
    return written(book, room, next_outcomes(book, outcome, room))


def unimplied_look(book):
    """The first pair (outcome, room) whose outcome does not imply what is shown next, or None."""
    for outcome in book.outcomes():
        for room in range(len(book.rooms)):
            if not known_implies(book, (outcome,), shown_next(book, outcome, room)):
                return (outcome, room)
    return None


def bridges(book, one, other):
    """The rooms, none of the two, that share unlike outcomes with two rooms, ascending."""
    check_room(book, one, "room")
    check_room(book, other, "room")
    thirds = [room for room in range(len(book.rooms)) if room not in (one, other)]
    return tuple([room for room in thirds if _bridges(book.rooms, one, room, other)])


def _bridges(rooms, one, room, other):
    firsts = [outcome for outcome in rooms[room] if outcome in rooms[one]]
    seconds = [outcome for outcome in rooms[room] if outcome in rooms[other]]
    return any([first != second for first in firsts for second in seconds])
