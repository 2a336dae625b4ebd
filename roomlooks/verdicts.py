"""Verdicts on books: houses, or what tears them; pairs without a join (points [23] to [27])."""

from roomlooks.orders import implied
from roomlooks.rings import is_short_ring, rings_of, short_rings
from roomlooks.sayings import (
    is_saying,
    known_implies,
    known_opposite,
    known_together,
    lots_of,
    pair_order,
    rest_of,
    saying_order,
    written,
)


class House:
    """A book without rings of three and of four rooms."""

    def __init__(self, book):
        self.book = book


class Torn:
    """A short ring, and two sayings with two unlike least sayings above them."""

    def __init__(self, ring, one, other, first, second):
        self.ring = ring
        self.one = one
        self.other = other
        self.first = first
        self.second = second


def court(book):
    """The House of a book, or the Torn of its first short ring."""
    found = short_rings(book)
    if not found:
        return House(book)
    ring = found[0]
    outcomes = [outcome for _, outcome in ring]
    last = known_opposite(book, (outcomes[-1],))
    if len(ring) == 4:
        first = known_opposite(book, (outcomes[1],))
        return Torn(ring, (outcomes[0],), (outcomes[2],), first, last)
    union = written(book, ring[1][0], tuple(sorted(outcomes[:2])))
    return Torn(ring, (outcomes[0],), (outcomes[1],), union, last)


def check_verdict(book, value):
    """Whether any value is the House of an equal book, or a Torn that shows it is none."""
    if isinstance(value, House):
        return book == value.book and not short_rings(book)
    return isinstance(value, Torn) and is_short_ring(book, value.ring) and _tears(book, value)


def _tears(book, torn):
    """Whether the sayings of a Torn are sayings, and two unlike least ones above two."""
    sayings = [torn.one, torn.other, torn.first, torn.second]
    if not all([is_saying(book, saying) for saying in sayings]) or torn.first == torn.second:
        return False
    uppers = [saying for saying in implied(book, torn.one) if known_implies(book, torn.other, saying)]
    return _is_least(book, torn.first, uppers) and _is_least(book, torn.second, uppers)


def _is_least(book, saying, uppers):
    """Whether a saying is one of these, and no other one of them implies it."""
    return [upper for upper in uppers if known_implies(book, upper, saying)] == [saying]


def joinless(book):
    """The pairs of sayings without a join, ascending in the order of sayings."""
    threes = rings_of(book, 3)
    pairs = [(ring[at][1], ring[at + 2][1]) for ring in rings_of(book, 4) for at in range(2)]
    found = [((one,), (other,)) for one, other in pairs]
    for ring in threes:
        found.extend(_pairs_across(book, ring))
    found = [pair for pair in found if not known_together(book, pair[0], pair[1])]
    for ring in threes:
        singles = [(outcome,) for _, outcome in ring]
        found.extend([(singles[at - 1], singles[at]) for at in range(3)])
    return _in_pair_order(found)


def _pairs_across(book, ring):
    """The outcomes of a ring of three with sayings of the ring's room that lacks the outcome."""
    outcomes = [outcome for _, outcome in ring]
    found = []
    for at, outcome in enumerate(outcomes):
        room = ring[at - 1][0]
        lots = lots_of(rest_of(book.rooms[room], outcomes))
        found.extend([((outcome,), written(book, room, lot)) for lot in lots if lot])
    return found


def _in_pair_order(pairs):
    """Pairs of unlike sayings, each once, the earlier saying first, ascending in their order."""
    turned = [tuple(sorted(pair, key=saying_order)) for pair in pairs]
    return tuple(sorted(list({pair: True for pair in turned}), key=pair_order))


def meetless(book):
    """The pairs of sayings without a meet, ascending in the order of sayings."""
    pairs = joinless(book)
    return _in_pair_order([[known_opposite(book, saying) for saying in pair] for pair in pairs])
