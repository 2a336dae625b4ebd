"""Rings of rooms (points [20] and [21])."""

from roomlooks.basics import check_room, is_look, is_number_within
from roomlooks.errors import InvalidNumber, InvalidRing


def neighbours(book, room):
    """The pairs (other, outcome) of the rooms that share an outcome with a room, ascending."""
    check_room(book, room, "room")
    pairs = [(other, outcome) for outcome in book.rooms[room] for other in book.rooms_of(outcome)]
    return tuple(sorted([pair for pair in pairs if pair[0] != room]))


def _check_turning(book, value):
    """Raise InvalidRing unless any value is a ring, whether it is written or not."""
    if not isinstance(value, tuple):
        raise InvalidRing(-1)
    for at in range(len(value)):
        if not is_look(book, value[at]) or not _goes_on(book, value, at):
            raise InvalidRing(at)
    if len(value) < 3 or value[-1][1] not in book.rooms[value[0][0]]:
        raise InvalidRing(len(value))


def _goes_on(book, pairs, at):
    """Whether the pair at a place is new and its room has the outcome of the pair before."""
    room, outcome = pairs[at]
    if any([room == pair[0] or outcome == pair[1] for pair in pairs[:at]]):
        return False
    return at == 0 or pairs[at - 1][1] in book.rooms[room]


def turned_ring(pairs):
    """The written form of the pairs of a ring."""
    start = pairs.index(min(pairs))
    ahead = pairs[start:] + pairs[:start]
    rooms = [pair[0] for pair in ahead]
    if rooms[1] < rooms[-1]:
        return ahead
    # Backwards, each room is left by the outcome through which it was entered.
    return tuple([(rooms[-at], ahead[-at - 1][1]) for at in range(len(ahead))])


def check_ring(book, value):
    """Raise InvalidRing unless any value is a written ring."""
    if written_ring(book, value) != value:
        raise InvalidRing(len(value))


def is_ring(book, value):
    """Whether any value is a written ring."""
    try:
        check_ring(book, value)
    except InvalidRing:
        return False
    return True


def is_short_ring(book, value):
    """Whether any value is a written ring of three or four rooms."""
    return is_ring(book, value) and len(value) < 5


def written_ring(book, value):
    """The written form of a ring that begins at any of its rooms and goes either way."""
    _check_turning(book, value)
    return turned_ring(value)


def rings_of(book, size):
    """The written rings of so many rooms, ascending."""
    if not is_number_within(size, 3, 6):
        raise InvalidNumber("size")
    return _rings(book, size)


def _rings(book, size):
    links = [neighbours(book, room) for room in range(len(book.rooms))]
    found = []
    for rooms, outcomes in _paths(links, size):
        closing = [outcome for room, outcome in links[rooms[-1]] if room == rooms[0]]
        if rooms[1] < rooms[-1] and closing and closing[0] not in outcomes:
            found.append(tuple(zip(rooms, outcomes + (closing[0],))))
    return tuple(sorted(found))


def _paths(links, size):
    """Paths of so many rooms, the first of which is the least, and of the outcomes between them."""
    paths = [((room,), ()) for room in range(len(links))]
    for _ in range(size - 1):
        paths = [
            (rooms + (room,), outcomes + (outcome,))
            for rooms, outcomes in paths
            for room, outcome in links[rooms[-1]]
            if room > rooms[0] and room not in rooms and outcome not in outcomes
        ]
    return paths


def short_rings(book):
    """The written rings of three rooms, then those of four."""
    return _rings(book, 3) + _rings(book, 4)


def shortest_ring(book):
    """The first of the written rings with the fewest rooms, or None."""
    for size in range(3, len(book.rooms) + 1):
        found = _rings(book, size)
        if found:
            return found[0]
    return None
