"""Pieces of a book, and orders of its rooms that show that it has no ring (point [22])."""

from roomlooks.basics import hanging_lots, is_room_number


def pieces(book):
    """The lots of numbers of rooms that hang together, ascending."""
    return hanging_lots(rooms_near(book, None))


def rooms_near(book, without):
    """A dict from each room to those that share another outcome than this one with it."""
    return {room: _homes(book, room, without) for room in range(len(book.rooms))}


def _homes(book, room, without):
    links = [outcome for outcome in book.rooms[room] if outcome != without]
    return [home for outcome in links for home in book.rooms_of(outcome)]


def extra_shares(book):
    """How many shares there are more than it takes to hold the pieces together."""
    again = sum([len(book.rooms_of(outcome)) - 1 for outcome in book.shared()])
    return again - len(book.rooms) + len(pieces(book))


def room_order(book):
    """All rooms, each behind one that it shares an outcome with where there is one; None with a ring."""
    if extra_shares(book) > 0:
        return None
    order, left = (), list(range(len(book.rooms)))
    while left:
        linked = [room for room in left if _shared_with(book, room, order)]
        order = order + ((linked + left)[0],)
        left = [room for room in left if room != order[-1]]
    return order


def _shared_with(book, room, others):
    """The outcomes that a room shares with any of the others, as a list."""
    return [name for name in book.rooms[room] if any([name in book.rooms[other] for other in others])]


def check_room_order(book, value):
    """Whether any value is all rooms, each of which shares at most one outcome with all before."""
    if not isinstance(value, tuple) or not all([is_room_number(book, room) for room in value]):
        return False
    if sorted(value) != list(range(len(book.rooms))):
        return False
    return all([len(_shared_with(book, room, value[:at])) < 2 for at, room in enumerate(value)])
