"""Shares that are parted so that no ring, or no short ring, is left (point [90])."""

from roomlooks.basics import fresh_names, is_ascending, is_look, is_number_within, steps_from, way_down
from roomlooks.books import Book
from roomlooks.errors import InvalidNumber, Refused
from roomlooks.rings import is_ring, is_short_ring, short_rings, turned_ring

MOST_PARTED = 4


def all_shares(book):
    """All shares: pairs of a room and a shared outcome of it, ascending."""
    shared = book.shared()
    rooms = list(enumerate(book.rooms))
    return tuple([(room, name) for room, outcomes in rooms for name in outcomes if name in shared])


def _is_share(book, value):
    return is_look(book, value) and len(book.rooms_of(value[1])) > 1


def _is_share_lot(book, value):
    if not isinstance(value, tuple) or not all([_is_share(book, item) for item in value]):
        return False
    return is_ascending(value)


def _passed(ring):
    """The shares that a ring passes, ascending."""
    # A ring enters its room number `at` by the outcome of the pair before.
    entries = [(ring[at][0], ring[at - 1][1]) for at in range(len(ring))]
    return sorted(entries + list(ring))


def parted_book(book, lot):
    """The book in which the shares of a lot have new outcomes in their places."""
    added = dict(zip(lot, fresh_names(book.outcomes(), len(lot))))
    rooms = [
        tuple(sorted([added.get((room, outcome), outcome) for outcome in outcomes]))
        for room, outcomes in enumerate(book.rooms)
    ]
    return Book(tuple(rooms))


def _closing(shares):
    """Those of some shares that close a ring with shares before them that close none."""
    piece = {end: end for share in shares for end in share}
    found = []
    for share in shares:
        one, other = piece[share[0]], piece[share[1]]
        if one == other:
            found.append(share)
        piece = {end: one if piece[end] == other else piece[end] for end in piece}
    return found


def _left(book, lot):
    """The shares that a lot leaves, as a list."""
    return [share for share in all_shares(book) if share not in lot]


def cheapest_parting(book, prices):
    """Some lot of as few shares as leave no ring, with the least sum of prices."""
    dearest_first = sorted([(-prices[share], share) for share in all_shares(book)])
    return tuple(sorted(_closing([share for _, share in dearest_first])))


def parting_rings(book, lot):
    """A dict from each share of such a lot to the only ring that passes no other share of it."""
    near = {end: [] for share in all_shares(book) for end in share}
    for room, outcome in _left(book, lot):
        near[room].append(outcome)
        near[outcome].append(room)
    return {share: _ring_by(near, share) for share in lot}


def _ring_by(near, share):
    """The ring of a share and the way between its ends, along rooms and outcomes in turn."""
    room, outcome = share
    way = way_down(near, steps_from(near, [outcome]), room)
    return turned_ring(tuple(zip(way[::2], way[1::2])))


def check_cheapest(book, prices, lot, table):
    """Whether any values are a lot whose parting leaves no ring, and rings that show it is cheapest."""
    if not _is_share_lot(book, lot) or _closing(_left(book, lot)):
        return False
    if not isinstance(table, dict) or not all([_is_share(book, key) for key in table]):
        return False
    if sorted(table) != list(lot):
        return False
    return all([_shows(book, prices, lot, share, table[share]) for share in lot])


def _shows(book, prices, lot, share, ring):
    """Whether any value is a ring that passes a share, no other one of the lot and no cheaper one."""
    if not is_ring(book, ring):
        return False
    passed = _passed(ring)
    if [other for other in passed if other in lot] != [share]:
        return False
    return min([prices[other] for other in passed]) == prices[share]


def _rows_of(book):
    """A dict from each short ring to the shares that it passes."""
    return {ring: _passed(ring) for ring in short_rings(book)}


def _without(rows, share):
    """The rings, with their shares, that do not pass a share."""
    return {ring: rows[ring] for ring in rows if share not in rows[ring]}


def _strangers(rows):
    """Rings, as a list, no two of which pass the same share: each that fits to those before."""
    found, passed = [], []
    for ring in rows:
        if not any([share in passed for share in rows[ring]]):
            found.append(ring)
            passed.extend(rows[ring])
    return found


def fewest_parting(book, *, most=4):
    """Some lot of as few shares as possible whose parting leaves no short ring."""
    if not is_number_within(most, 0, MOST_PARTED):
        raise InvalidNumber("most")
    rows = _rows_of(book)
    for many in range(most + 1):
        lot = _parting(rows, many)
        if lot is not None:
            return tuple(sorted(lot))
    raise Refused("many")


def _parting(rows, many):
    """At most so many shares, as a list, of which each ring passes one; None if there are none."""
    strangers = _strangers(rows)
    if len(strangers) > many:
        return None
    if not strangers:
        return []
    for share in rows[strangers[0]]:
        lot = _parting(_without(rows, share), many - 1)
        if lot is not None:
            return [share] + lot
    return None


def more_needed(book, many):
    """Some certificate that more than so many shares are needed, or None."""
    if not is_number_within(many, 0, MOST_PARTED - 1):
        raise InvalidNumber("many")
    return _certificate(_rows_of(book), many)


def _certificate(rows, many):
    strangers = _strangers(rows)
    if len(strangers) > many:
        return ("rings", tuple(strangers[:many + 1]))
    if not strangers:
        return None
    parts = []
    for share in rows[strangers[0]]:
        part = _certificate(_without(rows, share), many - 1)
        if part is None:
            return None
        parts.append(part)
    return ("cases", strangers[0], tuple(parts))


def check_needed(book, many, value):
    """Whether any value is a certificate that more than so many shares are needed."""
    return _is_needed(book, many, value, [])


def _is_needed(book, many, value, barred):
    """Whether any value is a certificate without rings that pass a barred share."""
    if not isinstance(value, tuple) or len(value) < 2 or not isinstance(value[0], str):
        return False
    if value[0] == "rings":
        if len(value) != 2 or not isinstance(value[1], tuple) or len(value[1]) != many + 1:
            return False
        return _are_strangers(book, value[1], barred)
    if value[0] != "cases" or len(value) != 3 or many < 1 or not _are_strangers(book, value[1:2], barred):
        return False
    passed = _passed(value[1])
    if not isinstance(value[2], tuple) or len(value[2]) != len(passed):
        return False
    parts = list(zip(passed, value[2]))
    return all([_is_needed(book, many - 1, part, barred + [share]) for share, part in parts])


def _are_strangers(book, rings, barred):
    """Whether any values are short rings no two of which pass the same share, and none a barred one."""
    passed = list(barred)
    for ring in rings:
        if not is_short_ring(book, ring) or any([share in passed for share in _passed(ring)]):
            return False
        passed.extend(_passed(ring))
    return True
