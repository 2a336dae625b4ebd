"""Rooms that close short rings with rooms before them, and rooms that are kept (point [89])."""

from roomlooks.basics import is_room_lot, is_room_number
from roomlooks.errors import Refused
from roomlooks.rings import is_short_ring, short_rings


def _rings_within(rings, rooms):
    """The rings, as a list, all of whose rooms are among these."""
    return [ring for ring in rings if all([room in rooms for room, _ in ring])]


def _closed_by(rings, room, rooms):
    """The rings, as a list, that a room closes with some others; among these there are none."""
    return _rings_within(rings, list(rooms) + [room])


def first_closing(book):
    """The first room that closes a short ring with rooms before it, and the first such ring."""
    rings = short_rings(book)
    for room in range(len(book.rooms)):
        found = _closed_by(rings, room, list(range(room)))
        if found:
            return (room, found[0])
    return None


def kept_rooms(book, order):
    """The rooms, ascending, that are kept in an order since they close no short ring with others."""
    rooms = list(range(len(book.rooms)))
    if not isinstance(order, tuple) or not all([is_room_number(book, room) for room in order]):
        raise Refused("order")
    if sorted(order) != rooms:
        raise Refused("order")
    rings = short_rings(book)
    kept = []
    for room in order:
        if not _closed_by(rings, room, kept):
            kept = kept + [room]
    return tuple(sorted(kept))


def greatest_houses(book):
    """The greatest lots of rooms without short rings, those with more rooms first."""
    many = len(book.rooms)
    masks = sorted(set([sum([1 << room for room, _ in ring]) for ring in short_rings(book)]))
    free = [bits for bits in range(1 << many) if not any([bits & mask == mask for mask in masks])]
    known = {bits: True for bits in free}
    found = [bits for bits in free if not any([(bits | 1 << room) in known for room in _others(bits, many)])]
    lots = [tuple([room for room in range(many) if (bits >> room) & 1]) for bits in found]
    return tuple(sorted(lots, key=_larger_first))


def _others(bits, many):
    return [room for room in range(many) if not (bits >> room) & 1]


def _larger_first(lot):
    return (-len(lot), lot)


def why_left(book, kept):
    """A dict from each other room that closes short rings with those kept to the first one."""
    rings = short_rings(book)
    found = {}
    for room in range(len(book.rooms)):
        closed = _closed_by(rings, room, kept) if room not in kept else []
        if closed:
            found[room] = closed[0]
    return found


def check_left(book, kept, table):
    """Whether any values are rooms without short rings, and a dict that tells why no other is kept."""
    if not is_room_lot(book, kept) or _rings_within(short_rings(book), kept):
        return False
    if not isinstance(table, dict) or not all([is_room_number(book, key) for key in table]):
        return False
    others = [room for room in range(len(book.rooms)) if room not in kept]
    if sorted(table) != others:
        return False
    return all([_shows(book, table[room], room, kept) for room in others])


def _shows(book, value, room, kept):
    """Whether any value is a short ring of a room and rooms that are kept."""
    return is_short_ring(book, value) and _closed_by([value], room, kept) != []
