"""Crucial lots that no weight parts, and books with enough weights (points [59] and [60])."""

from roomlooks.bounds import weights_stand
from roomlooks.errors import NoWeight
from roomlooks.fractions import less, sum_of
from roomlooks.parted import compare_shares, crucial_lots, shows_never
from roomlooks.sayings import is_saying, known_implies, known_opposite, written
from roomlooks.simplex import lowered
from roomlooks.weights import FULL, is_weight, weight_of

HALF = (1, 2)


class Enough:
    """Weights that part all crucial lots."""

    def __init__(self, weights):
        self.weights = weights


class Lacking:
    """Two sayings, the first without the second, and numbers that show that it is never ahead."""

    def __init__(self, one, other, numbers, bottom):
        self.one = one
        self.other = other
        self.numbers = numbers
        self.bottom = bottom


def _parts(book, weight, lot):
    """Whether a weight parts a crucial lot."""
    total = sum_of([part for name, part in zip(book.outcomes(), weight) if name in lot])
    return less(HALF if len(lot) == 1 else FULL, total)


def _sorted_out(book):
    """Weights that part each crucial lot that a weight parts, and the lots that none does."""
    lots = crucial_lots(book)
    try:
        stand = weights_stand(book)
    except NoWeight:
        return ((), lots)
    weights, left = [], []
    for lot in lots:
        if not any([_parts(book, weight, lot) for weight in weights]):
            stand, _ = lowered(stand, [-1 if name in lot else 0 for name in book.outcomes()])
            if _parts(book, weight_of(stand), lot):
                weights.append(weight_of(stand))
            else:
                left.append(lot)
    return (tuple(weights), tuple(left))


def unparted_lots(book):
    """The crucial lots that no weight parts, by size, those of one size ascending."""
    return _sorted_out(book)[1]


def enough_weights(book):
    """Some Enough of a book, or some Lacking."""
    weights, left = _sorted_out(book)
    if not left:
        return Enough(weights)
    one, other = _sayings_of(book, left[0])
    shown = compare_shares(book, one, other)
    return Lacking(one, other, shown.numbers, shown.bottom)


def _sayings_of(book, lot):
    """Two sayings, the first of which has more in just the weights that part a crucial lot."""
    if len(lot) < 3:
        return ((lot[0],), known_opposite(book, (lot[-1],)))
    p, q, r = lot
    return (written(book, book.room_of_two(p, r), (p, r)), known_opposite(book, (q,)))


def check_enough(book, value):
    """Whether any value is an Enough or a Lacking of the book."""
    if isinstance(value, Enough):
        return isinstance(value.weights, tuple) and _are_enough(book, value.weights)
    if not isinstance(value, Lacking) or not is_saying(book, value.one) or not is_saying(book, value.other):
        return False
    if known_implies(book, value.one, value.other):
        return False
    return shows_never(book, value.one, value.other, value.numbers, value.bottom)


def _are_enough(book, weights):
    if not all([is_weight(book, weight) for weight in weights]):
        return False
    return all([any([_parts(book, weight, lot) for weight in weights]) for lot in crucial_lots(book)])
