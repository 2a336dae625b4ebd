"""Blocks of rooms that rings hold together, and how a book splits into them ([82] and [83])."""

from roomlooks.basics import hanging_lots, is_room_lot, steps_from
from roomlooks.books import Book
from roomlooks.errors import InvalidNumber
from roomlooks.rings import is_ring, neighbours, turned_ring
from roomlooks.trees import rooms_near


class Bound:
    """Rings that show that a book is one block."""

    def __init__(self, rings):
        self.rings = rings


class Split:
    """Rooms that share just one outcome, or none, with the others: so the book is not one block."""

    def __init__(self, outcome, rooms):
        self.outcome = outcome
        self.rooms = rooms


def sub_book(book, rooms):
    """The book of some rooms, by number."""
    if not is_room_lot(book, rooms) or not rooms:
        raise InvalidNumber("rooms")
    return Book(tuple([book.rooms[room] for room in rooms]))


def _homes_in_rings(book):
    """For each shared outcome pairs (outcome, rooms) of its rooms that hang together without it.

    Any two of these rooms are in a ring that passes the outcome.
    """
    found = []
    for outcome in book.shared():
        for lot in hanging_lots(rooms_near(book, outcome)):
            found.append((outcome, [room for room in lot if room in book.rooms_of(outcome)]))
    return found


def blocks(book):
    """The blocks of a book, ascending."""
    near = {room: [] for room in range(len(book.rooms))}
    for _, homes in _homes_in_rings(book):
        for room in homes:
            near[room].extend(homes)
    return hanging_lots(near)


def _ring_through(book, outcome, room, last):
    """A ring that passes an outcome of two rooms that hang together without it."""
    steps = steps_from(rooms_near(book, outcome), [last])
    ring = ((last, outcome),)
    while room != last:
        links = [(other, name) for other, name in neighbours(book, room) if name != outcome]
        other, name = [link for link in links if steps[link[0]] < steps[room]][0]
        ring = ring + ((room, name),)
        room = other
    return turned_ring(ring)


def bound_or_split(book):
    """Some Bound if the book is one block, otherwise some Split."""
    for outcome in (None,) + book.shared():
        lots = hanging_lots(rooms_near(book, outcome))
        if len(lots) > 1:
            return Split(outcome, lots[0])
    left = [
        _ring_through(book, outcome, homes[at - 1], homes[at])
        for outcome, homes in _homes_in_rings(book)
        for at in range(1, len(homes))
    ]
    rings, passed = (), [0]
    while len(passed) < len(book.rooms):
        linked = [ring for ring in left if 0 < len(_new_rooms(ring, passed)) < len(ring)]
        rings = rings + (linked[0],)
        passed = passed + _new_rooms(linked[0], passed)
    return Bound(rings)


def _new_rooms(ring, passed):
    """The rooms of a ring that are not passed yet, as a list."""
    return [room for room, _ in ring if room not in passed]


def check_bound(book, value):
    """Whether any value is a Bound or a Split of the book."""
    if isinstance(value, Bound):
        return isinstance(value.rings, tuple) and _bind(book, value.rings)
    if not isinstance(value, Split) or not is_room_lot(book, value.rooms):
        return False
    others = [room for room in range(len(book.rooms)) if room not in value.rooms]
    if not value.rooms or not others:
        return False
    return _is_only_link(book, value.rooms, others, value.outcome)


def _bind(book, rings):
    """Whether rings pass all rooms, each but the first a room that an earlier one passes."""
    passed = []
    for ring in rings:
        if not is_ring(book, ring):
            return False
        new = _new_rooms(ring, passed)
        if passed and len(new) == len(ring):
            return False
        passed = passed + new
    # No ring is needed to pass the only room of a book.
    return len(passed) == len(book.rooms) or (not rings and len(book.rooms) == 1)


def _links(book, rooms, others):
    """The outcomes of some rooms that belong to others, too, as a list."""
    own = [outcome for room in rooms for outcome in book.rooms[room]]
    return [outcome for outcome in book.shared() if outcome in own and _is_in(book, outcome, others)]


def _is_in(book, outcome, rooms):
    return any([room in rooms for room in book.rooms_of(outcome)])


def _is_only_link(book, rooms, others, outcome):
    """Whether any value is the only outcome that rooms share with others, None if there is none."""
    links = _links(book, rooms, others)
    if not links:
        return outcome is None
    return isinstance(outcome, str) and links == [outcome]


def block_plan(book):
    """Some block plan: each block with the only outcome that it shares with blocks before it."""
    plan, earlier, left = (), [], list(blocks(book))
    while left:
        linked = [block for block in left if _links(book, block, earlier)]
        block = (linked + left)[0]
        plan = plan + ((block, (_links(book, block, earlier) + [None])[0]),)
        earlier = earlier + list(block)
        left = [other for other in left if other != block]
    return plan


def check_block_plan(book, value):
    """Whether any value is a block plan."""
    if not isinstance(value, tuple) or not all([_is_step(book, item) for item in value]):
        return False
    if sorted([block for block, _ in value]) != list(blocks(book)):
        return False
    earlier = []
    for block, outcome in value:
        if not _is_only_link(book, block, earlier, outcome):
            return False
        earlier = earlier + list(block)
    return True


def _is_step(book, item):
    return isinstance(item, tuple) and len(item) == 2 and is_room_lot(book, item[0])
