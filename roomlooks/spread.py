"""Triples of sayings, whether they spread, and the reasons (points [43] to [47])."""

from math import comb

from roomlooks.basics import is_number_within
from roomlooks.bent import straight_door
from roomlooks.errors import InvalidNumber
from roomlooks.looks import follows
from roomlooks.lots import centre
from roomlooks.rings import is_ring, rings_of
from roomlooks.sayings import (
    all_sayings,
    home_bits,
    in_order,
    known_implies,
    known_opposite,
    known_together,
    rest_of,
    written,
)
from roomlooks.tables import join, meet

LAST_ROW = 5


def row_sides(house, one, other, third, row):
    """The pair of the sides of a row of a triple."""
    if not is_number_within(row, 0, LAST_ROW):
        raise InvalidNumber("row")
    triple = (one, other, third)
    x = triple[row % 3]
    y, z = [triple[at] for at in range(3) if at != row % 3]
    if row < 3:
        return (meet(house, x, join(house, y, z)), join(house, meet(house, x, y), meet(house, x, z)))
    return (join(house, x, meet(house, y, z)), meet(house, join(house, x, y), join(house, x, z)))


def row_gap(house, one, other, third, row):
    """The side of a row that the other one implies, less the other one."""
    first, second = row_sides(house, one, other, third, row)
    if row < 3:
        return meet(house, first, known_opposite(house.book, second))
    return meet(house, second, known_opposite(house.book, first))


def broken_rows(house, one, other, third):
    """The numbers of the rows whose sides are unlike, ascending."""
    sides = [row_sides(house, one, other, third, row) for row in range(LAST_ROW + 1)]
    return tuple([row for row, (first, second) in enumerate(sides) if first != second])


def spreads(house, one, other, third):
    """Whether a triple spreads."""
    return not broken_rows(house, one, other, third)


def hubs(house, one, other, third):
    """The places of the sayings of a triple that stand together with both others, ascending."""
    triple = (one, other, third)
    return tuple([at for at in range(3) if all([known_together(house.book, triple[at], each) for each in triple])])


def some_broken(house):
    """Some broken triple, or None if the book has one room."""
    book = house.book
    names = book.outcomes()
    pairs = [(p, q) for p in names for q in names if p < q and follows(book, p, q)]
    if not pairs:
        return None
    p, q = pairs[0]
    return ((p,), (q,), known_opposite(book, (q,)))


def always_spreading(house):
    """The sayings that spread with any two sayings, in order."""
    return centre(house.book)


def triple_reason(house, one, other, third):
    """The reason why a triple spreads, or is broken."""
    triple = (one, other, third)
    found = hubs(house, one, other, third)
    if found:
        return ("hub", found[0])
    for low in range(3):
        for high in range(3):
            door = _door(house, triple, low, high)
            if door is not None:
                return ("step", low, high, door)
    broken = broken_rows(house, one, other, third)
    if not broken:
        return _ring_reason(house.book, triple)
    sides = row_sides(house, one, other, third, broken[0])
    return ("row", broken[0], [name for name in house.book.outcomes() if _tells(house.book, name, sides)][0])


def _door(house, triple, low, high):
    """The open door of two sayings, the first of which implies the second one, and the third; or None."""
    if low == high or not known_implies(house.book, triple[low], triple[high]):
        return None
    return straight_door(house, triple[low], triple[high], triple[3 - low - high])


def _tells(book, outcome, sides):
    """Whether an outcome implies just one of two sides."""
    return known_implies(book, (outcome,), sides[0]) != known_implies(book, (outcome,), sides[1])


def _ring_reason(book, triple):
    for ring in rings_of(book, 5) + rings_of(book, 6):
        for turned in (False, True):
            if _fits_ring(book, triple, ring, turned):
                return ("ring", ring, turned)
    return None


def _fits_ring(book, triple, ring, turned):
    """Whether three sayings, or their opposites if it is turned, are a triple of a ring."""
    sayings = [known_opposite(book, saying) for saying in triple] if turned else list(triple)
    return sorted(sayings) in [sorted(fitting) for fitting in _ring_triples(book, ring)]


def _ring_triples(book, ring):
    """The triples of a ring of five or six rooms."""
    names = [outcome for _, outcome in ring]
    if len(ring) == 6:
        return [[(name,) for name in names[::2]], [(name,) for name in names[1::2]]]
    found = []
    for at in range(5):
        # Counted from behind, the places go round the ring.
        q = [names[at + step - 5] for step in range(5)]
        room = ring[at + 1 - 5][0]
        rest = written(book, room, rest_of(book.rooms[room], (q[0], q[1])))
        found.append([(q[0],), (q[1],), (q[3],)])
        found.append([(q[2],), (q[4],), rest])
    return found


def is_triple_reason(house, one, other, third, value):
    """Whether any value is a reason of a triple."""
    if not isinstance(value, tuple) or not value or not isinstance(value[0], str):
        return False
    triple, told = (one, other, third), value[1:]
    if value[0] == "hub" and len(told) == 1:
        return is_number_within(told[0], 0, 2) and told[0] in hubs(house, one, other, third)
    if value[0] == "step" and len(told) == 3:
        low, high, door = told
        return all([is_number_within(item, 0, 2) for item in told]) and _door(house, triple, low, high) == door
    if value[0] == "ring" and len(told) == 2:
        return _is_ring_reason(house.book, triple, told[0], told[1])
    return value[0] == "row" and len(told) == 2 and _is_row_reason(house, triple, told[0], told[1])


def _is_ring_reason(book, triple, ring, turned):
    """Whether any values are a ring of five or six rooms and True or False that tell of a triple."""
    if not isinstance(turned, bool) or not is_ring(book, ring) or len(ring) not in (5, 6):
        return False
    return _fits_ring(book, triple, ring, turned)


def _is_row_reason(house, triple, row, outcome):
    """Whether any values are a row of a triple and an outcome that implies just one of its sides."""
    if not is_number_within(row, 0, LAST_ROW) or not house.book.rooms_of(outcome):
        return False
    return _tells(house.book, outcome, row_sides(house, triple[0], triple[1], triple[2], row))


def count_triples(house):
    """How many sets of three sayings have a hub, spread by a step, by a ring, are broken."""
    book = house.book
    bits = [home_bits(book, saying) for saying in all_sayings(book)]
    by_hub, by_step = _count_hubs(bits), _count_steps(book)
    by_ring = 20 * len(rings_of(book, 5)) + 4 * len(rings_of(book, 6))
    return (by_hub, by_step, by_ring, comb(len(bits), 3) - by_hub - by_step - by_ring)


def _count_hubs(bits):
    """How many sets of three integers have one with a bit of each of the others."""
    kinds = sorted(set(bits))
    many = [bits.count(kind) for kind in kinds]
    total = 0
    for first in range(len(kinds)):
        for second in range(first, len(kinds)):
            for third in range(second, len(kinds)):
                one, other, last = kinds[first], kinds[second], kinds[third]
                if len([both for both in (one & other, one & last, other & last) if both]) > 1:
                    total = total + _count_sets(many, (first, second, third))
    return total


def _count_sets(many, places):
    """How many sets have one item of each kind, so many of one that stands there several times."""
    total = 1
    for place in sorted(set(places)):
        total = total * comb(many[place], places.count(place))
    return total


def _count_steps(book):
    """How many sets of three sayings spread by a step and have no hub."""
    total = 0
    for outcome in book.shared():
        homes = book.rooms_of(outcome)
        for room in homes:
            for other in homes:
                if room != other:
                    more = sum([_inner(book, q, other) for q in book.rooms[other] if q != outcome])
                    many = (1 << len(book.rooms[other])) - 4 + 2 * more
                    total = total + _lots_with_more(book, room) * many
    return total


def _inner(book, outcome, room):
    """The lots of the other rooms of an outcome that have it and more, but lack at least two others."""
    return sum([_lots_with_more(book, home) for home in book.rooms_of(outcome) if home != room])


def _lots_with_more(book, room):
    """How many lots of a room have one of its outcomes and others, but not all."""
    return (1 << (len(book.rooms[room]) - 1)) - 2


def and_or_from(house, sayings):
    """The items of a tuple and all that is worked out from them by joins and meets, in order."""
    found, waiting = {}, list(sayings)
    while waiting:
        saying = waiting.pop()
        if saying not in found:
            for other in found:
                waiting.extend([join(house, saying, other), meet(house, saying, other)])
            found[saying] = True
    return in_order(list(found))
