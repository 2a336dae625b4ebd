"""Ways, the rings that a new room closes, and lots that it may share (points [85] to [87])."""

from roomlooks.basics import fresh_names, is_number_within, lots_without, may_grow, rivals, steps_from
from roomlooks.books import Book
from roomlooks.errors import InvalidNumber
from roomlooks.rings import turned_ring

# The outcomes of a free lot are at least so far from each other.
FREE_DISTANCE = 4
MOST_FREE = 5


def _check_within(value, low, high, word):
    if not is_number_within(value, low, high):
        raise InvalidNumber(word)


def distance(book, one, other):
    """The least number of rooms of a way between two outcomes, or None."""
    return steps_from(rivals(book), [one]).get(other)


def ways_between(book, one, other, size):
    """All ways of so many rooms between two unlike outcomes, ascending."""
    _check_within(size, 1, 4, "size")
    ways = [()]
    for _ in range(size - 1):
        ways = [way + (step,) for way in ways for step in _steps(book, one, other, way)]
    found = []
    for way in ways:
        room = book.room_of_two(_end_of(one, way), other)
        if room is not None and room not in _rooms_passed(way):
            found.append(way + ((room, other),))
    return tuple(sorted(found))


def _end_of(one, way):
    return way[-1][1] if way else one


def _rooms_passed(way):
    return [room for room, _ in way]


def _steps(book, one, other, way):
    """The steps by which a way goes on through a new room to a new outcome, not yet the last."""
    passed = [one, other] + [outcome for _, outcome in way]
    rooms = _rooms_passed(way)
    return [
        (room, outcome)
        for room in book.rooms_of(_end_of(one, way))
        if room not in rooms
        for outcome in book.rooms[room]
        if outcome not in passed and len(book.rooms_of(outcome)) > 1
    ]


def first_way(book, one, other):
    """The first of the ways with the fewest rooms between two unlike outcomes, or None."""
    steps = steps_from(rivals(book), [other])
    if one not in steps:
        return None
    way = ()
    for left in range(steps[one] - 1, -1, -1):
        way = way + (_first_step(book, _end_of(one, way), steps, left),)
    return way


def _first_step(book, outcome, steps, left):
    """The first step from an outcome to one from which so many steps are left."""
    homes = book.rooms_of(outcome)
    return min([(room, other) for room in homes for other in book.rooms[room] if steps[other] == left])


def _pairs_of(lot):
    return [(one, other) for at, one in enumerate(lot) for other in lot[at + 1:]]


def closed_rings(book, lot, size):
    """The rings of so many rooms through a new last room that shares just a lot, ascending."""
    _check_within(size, 3, 5, "size")
    found = []
    for one, other in _pairs_of(lot):
        start = (len(book.rooms), one)
        ways = ways_between(book, one, other, size - 1)
        found.extend([turned_ring((start,) + way) for way in ways])
    return tuple(sorted(found))


def may_share(book, lot):
    """Whether a lot is free."""
    return nearest_two(book, lot) is None


def nearest_two(book, lot):
    """The first two outcomes of a lot with the least distance, and their way; None if free."""
    near = []
    for one, other in _pairs_of(lot):
        steps = distance(book, one, other)
        if steps is not None and steps < FREE_DISTANCE:
            near.append((steps, one, other))
    if not near:
        return None
    _, one, other = min(near)
    return (one, other, first_way(book, one, other))


def _clashes(book):
    """A dict from each outcome to those that no free lot has beside it."""
    near = rivals(book)
    return {outcome: _too_near(near, outcome) for outcome in near}


def _too_near(near, outcome):
    steps = steps_from(near, [outcome])
    return [other for other in steps if 0 < steps[other] < FREE_DISTANCE]


def free_lots(book, size):
    """All free lots of so many outcomes, ascending."""
    _check_within(size, 0, MOST_FREE, "size")
    return lots_without(book.outcomes(), _clashes(book), size)


def greatest_free_lots(book):
    """The free lots of at most five outcomes that lie within no other one, shorter ones first."""
    found = list(free_lots(book, MOST_FREE))
    clashes = _clashes(book)
    for size in range(MOST_FREE - 1, 0, -1):
        found = [lot for lot in free_lots(book, size) if not may_grow(lot, clashes)] + found
    return tuple(found)


def grown_book(book, lot, *, size=3):
    """The book with one more room of so many outcomes: the lot and new names."""
    _check_within(size, max(3, len(lot)), 5, "size")
    added = fresh_names(book.outcomes(), size - len(lot))
    return Book(book.rooms + (tuple(sorted(lot + added)),))
