"""Zigzags of sayings and rows of outcomes from room to room (points [91] to [93])."""

from roomlooks.basics import check_room, rivals, steps_from, way_down
from roomlooks.errors import Refused
from roomlooks.orders import implied, implying
from roomlooks.sayings import (
    all_sayings,
    check_saying,
    in_order,
    is_saying,
    known_implies,
    whole,
)


def _is_proper(book, saying):
    return saying != () and saying != whole(book)


def _check_proper(book, sayings):
    for saying in sayings:
        check_saying(book, saying)
    if not all([_is_proper(book, saying) for saying in sayings]):
        raise Refused("proper")


def is_zigzag(book, value):
    """Whether any value is a zigzag."""
    if not isinstance(value, tuple) or not value:
        return False
    if not all([is_saying(book, item) and _is_proper(book, item) for item in value]):
        return False
    return all([_are_near(book, value[at - 1], value[at]) for at in range(1, len(value))])


def _are_near(book, one, other):
    if one == other:
        return False
    return known_implies(book, one, other) or known_implies(book, other, one)


def _near_table(book):
    """A dict from all proper sayings, in order, to those that may stand beside them, in order."""
    proper = [saying for saying in all_sayings(book) if _is_proper(book, saying)]
    return {saying: _near(book, saying) for saying in proper}


def _near(book, saying):
    found = in_order(list(implied(book, saying) + implying(book, saying)))
    return [other for other in found if other != saying and _is_proper(book, other)]


def zigzag_length(book, one, other):
    """The number of steps of the shortest zigzags between two sayings, or None."""
    _check_proper(book, (one, other))
    return steps_from(_near_table(book), [one]).get(other)


def count_zigzags(book, one, other):
    """How many shortest zigzags from one saying to the other there are."""
    _check_proper(book, (one, other))
    near = _near_table(book)
    steps = steps_from(near, [one])
    # Sayings are found level by level, so all that lead to one are counted before it.
    many = {one: 1}
    for saying in steps:
        for later in near[saying]:
            if steps[later] == steps[saying] + 1:
                many[later] = many.get(later, 0) + many[saying]
    return many.get(other, 0)


def shortest_zigzag(book, one, other):
    """The earliest of the shortest zigzags from one saying to the other, or None."""
    _check_proper(book, (one, other))
    near = _near_table(book)
    steps = steps_from(near, [other])
    return way_down(near, steps, one) if one in steps else None


def zigzag_lengths(book, saying):
    """A dict from all proper sayings to the length of a shortest zigzag to them, or None."""
    _check_proper(book, (saying,))
    return _lengths_from(_near_table(book), saying)


def _lengths_from(near, saying):
    steps = steps_from(near, [saying])
    return {other: steps.get(other) for other in near}


def _exits(book, room):
    """The steps from each outcome that leads to a room to the outcomes of the room."""
    return steps_from(rivals(book), list(book.rooms[room]))


def _check_rooms(book, room, other):
    check_room(book, room, "room")
    check_room(book, other, "other")


def rooms_between(book, room, other):
    """The length of the shortest rows from a room to another one, or None."""
    found = outcome_row(book, room, other)
    return None if found is None else len(found)


def outcome_row(book, room, other):
    """The least of the shortest rows from a room to another one, or None."""
    _check_rooms(book, room, other)
    if room == other:
        return ()
    steps = _exits(book, other)
    starts = [outcome for outcome in book.rooms[room] if outcome in steps]
    if not starts:
        return None
    least = min([steps[outcome] for outcome in starts])
    first = [outcome for outcome in starts if steps[outcome] == least][0]
    return way_down(rivals(book), steps, first)


def farthest_from(book, saying):
    """The greatest length from a saying, and all sayings with this length, in order."""
    _check_proper(book, (saying,))
    return _farthest(_near_table(book), saying)


def _farthest(near, saying):
    lengths = _lengths_from(near, saying)
    greatest = max([length for length in list(lengths.values()) if length is not None])
    return (greatest, tuple([other for other in near if lengths[other] == greatest]))


def farthest_pair(book):
    """The greatest length in the book, and the first two sayings with it."""
    near = _near_table(book)
    best = (-1,)
    for saying in near:
        greatest, others = _farthest(near, saying)
        if greatest > best[0]:
            best = (greatest, saying, others[0])
    return best
