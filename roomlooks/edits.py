"""Books with a room more or less, and what stays of sayings and rings (points [96] and [97])."""

from roomlooks.basics import check_room, is_number_within
from roomlooks.books import Book
from roomlooks.errors import InvalidNumber
from roomlooks.rings import check_ring, turned_ring
from roomlooks.sayings import (
    NONE,
    all_sayings,
    check_saying,
    known_forms,
    known_opposite,
    pair_order,
    whole,
    written,
)


def extends(one, other):
    """Whether one book has all rooms of the other, at any places."""
    return all([room in one.rooms for room in other.rooms])


def book_with(book, room, *, at=None):
    """The book with one room more, at a place, or behind the others for None."""
    many = len(book.rooms)
    if at is not None and not is_number_within(at, 0, many):
        raise InvalidNumber("at")
    place = many if at is None else at
    return Book(book.rooms[:place] + (room,) + book.rooms[place:])


def without_room(book, room):
    """The book without the room with a number."""
    check_room(book, room, "room")
    return Book(book.rooms[:room] + book.rooms[room + 1:])


def rewritten(old, new, saying):
    """A saying of the old book as the new one writes it, or None if it does not stay."""
    check_saying(old, saying)
    return _rewritten(old, new, saying)


def _rewritten(old, new, saying):
    if saying == NONE or saying == whole(old):
        return NONE if saying == NONE else whole(new)
    for room, lot in known_forms(old, saying):
        if old.rooms[room] in new.rooms:
            return written(new, new.rooms.index(old.rooms[room]), lot)
    return None


def gone(old, new):
    """The sayings of the old book that do not stay in the new one, in order."""
    return tuple([saying for saying in all_sayings(old) if _rewritten(old, new, saying) is None])


def ring_over(old, new, ring):
    """A ring of the old book as the new one writes it, or None if a room of it is gone."""
    check_ring(old, ring)
    pairs = [(old.rooms[room], outcome) for room, outcome in ring]
    if not all([room in new.rooms for room, _ in pairs]):
        return None
    return turned_ring(tuple([(new.rooms.index(room), outcome) for room, outcome in pairs]))


def lost(old, new):
    """The pairs of sayings that stay, the first of which implies the second in the old book alone."""
    kept = [room for room in old.rooms if room in new.rooms]
    staying = [outcome for outcome in old.outcomes() if any([outcome in room for room in kept])]
    pairs = [
        ((one,), known_opposite(old, (other,)))
        for one in staying
        for other in staying
        if one != other and _is_parted(old, new, one, other)
    ]
    return tuple(sorted(pairs, key=pair_order))


def _is_parted(old, new, one, other):
    """Whether two outcomes are in a room of the old book and in no room of the new one."""
    return old.room_of_two(one, other) is not None and new.room_of_two(one, other) is None
