"""Greatest lots of sayings that stand together, and outcomes below (points [37] and [38])."""

from roomlooks.basics import longer_lots, may_grow, rivals
from roomlooks.sayings import (
    NONE,
    all_sayings,
    home_bits,
    in_order,
    known_implies,
    known_opposite,
    lots_of,
    whole,
    written,
)


def together_lots(book):
    """The greatest lots of sayings that stand two by two together, ascending."""
    knots = _knots(book)
    found = [_sayings_of_knot(book, knot) for knot in knots]
    for room, outcomes in enumerate(book.rooms):
        # The sayings of a larger room have no forms elsewhere, so no knot has them all.
        if len(outcomes) > 3 or not any([_lies_within(outcomes, knot) for knot in knots]):
            found.append(in_order([written(book, room, lot) for lot in lots_of(outcomes)]))
    return tuple(sorted(found))


def _knots(book):
    """The greatest lots of shared outcomes, two by two in some room, that lie in no room."""
    near = rivals(book)
    shared = book.shared()
    strangers = {
        one: [other for other in shared if other != one and other not in near[one]] for one in shared
    }
    found, lots = [], [()]
    while lots:
        found.extend([lot for lot in lots if not may_grow(lot, strangers)])
        lots = longer_lots(lots, shared, strangers)
    return [lot for lot in found if not any([_lies_within(lot, room) for room in book.rooms])]


def _lies_within(lot, other):
    return all([outcome in other for outcome in lot])


def _sayings_of_knot(book, knot):
    singles = [(outcome,) for outcome in knot]
    return in_order([NONE, whole(book)] + singles + [known_opposite(book, single) for single in singles])


def centre(book):
    """The sayings that stand together with every saying, in order."""
    sayings = all_sayings(book)
    homes = {saying: home_bits(book, saying) for saying in sayings}
    kinds = sorted(set(list(homes.values())))
    return tuple([saying for saying in sayings if all([homes[saying] & bits for bits in kinds])])


def outcomes_under(book, saying):
    """The outcomes that imply a saying, ascending."""
    return tuple([outcome for outcome in book.outcomes() if known_implies(book, (outcome,), saying)])


def hidden_pairs(book):
    """The pairs of sayings of which the first does not imply the second, but seems to by outcomes."""
    sayings = all_sayings(book)
    bits = {outcome: 1 << at for at, outcome in enumerate(book.outcomes())}
    under = {saying: sum([bits[name] for name in outcomes_under(book, saying)]) for saying in sayings}
    return tuple([
        (one, other)
        for one in sayings
        for other in sayings
        if not under[one] & ~under[other] and not known_implies(book, one, other)
    ])
