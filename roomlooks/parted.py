"""Which of two sayings can have the greater share, and crucial lots (points [58] and [59])."""

from roomlooks.basics import is_integer
from roomlooks.bounds import greatest_total
from roomlooks.errors import NoWeight
from roomlooks.fractions import less
from roomlooks.looks import follows
from roomlooks.rings import rings_of
from roomlooks.sayings import check_saying
from roomlooks.weights import are_integers, is_weight, share, sums_at, sunk


class Ahead:
    """A weight that gives the first of two sayings the greater share."""

    def __init__(self, weight):
        self.weight = weight


class NeverAhead:
    """Numbers that show that no weight gives the first of two sayings the greater share."""

    def __init__(self, numbers, bottom):
        self.numbers = numbers
        self.bottom = bottom


def _factors(book, one, other):
    """1 for each outcome that is in one saying alone, -1 for those in the other one alone, otherwise 0."""
    names = book.outcomes()
    return tuple([(1 if name in one else 0) - (1 if name in other else 0) for name in names])


def compare_shares(book, one, other):
    """Some Ahead for two sayings, or some NeverAhead."""
    check_saying(book, one)
    check_saying(book, other)
    try:
        found = greatest_total(book, _factors(book, one, other))
    except NoWeight:
        return NeverAhead(sunk(book, [1 for _ in book.rooms]), 1)
    return Ahead(found.weight) if found.value[0] > 0 else NeverAhead(found.numbers, found.bottom)


def check_comparison(book, one, other, value):
    """Whether any value is an Ahead or a NeverAhead for two sayings."""
    check_saying(book, one)
    check_saying(book, other)
    if isinstance(value, Ahead):
        weight = value.weight
        return is_weight(book, weight) and less(share(book, weight, other), share(book, weight, one))
    return isinstance(value, NeverAhead) and shows_never(book, one, other, value.numbers, value.bottom)


def shows_never(book, one, other, numbers, bottom):
    """Whether any values are the numbers and the bottom of a NeverAhead for two sayings."""
    if not is_integer(bottom) or bottom < 1 or not are_integers(numbers, len(book.rooms)):
        return False
    pairs = list(zip(sums_at(book, numbers), _factors(book, one, other)))
    return sum(numbers) <= 0 and all([total >= bottom * factor for total, factor in pairs])


def crucial_lots(book):
    """The crucial lots by size, those of one size ascending."""
    names = book.outcomes()
    singles = [(name,) for name in names]
    pairs = [(p, q) for p in names for q in names if p < q and follows(book, p, q)]
    threes = [tuple(sorted([outcome for _, outcome in ring])) for ring in rings_of(book, 3)]
    return tuple(singles + pairs + sorted(threes))
