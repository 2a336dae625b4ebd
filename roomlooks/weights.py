"""Weights: shares of all outcomes that sum to 1 in each room (points [51] and [52])."""

from roomlooks.basics import is_integer
from roomlooks.errors import InvalidNumber, InvalidWeight, Refused
from roomlooks.fractions import fraction_of, is_fraction, less, plus, sum_of, times
from roomlooks.sayings import check_saying, known_forms
from roomlooks.simplex import Stand, solved, tops

ZERO = (0, 1)
FULL = (1, 1)


class Weightless:
    """Numbers that are together below 0 and whose sum at no outcome is below 0."""

    def __init__(self, numbers):
        self.numbers = numbers


def check_weight(book, value):
    """Raise InvalidWeight unless any value is a weight."""
    if not isinstance(value, tuple):
        raise InvalidWeight(-1)
    outcomes = book.outcomes()
    for at in range(len(outcomes)):
        if at >= len(value) or not is_fraction(value[at]) or value[at][0] < 0:
            raise InvalidWeight(at)
    if len(value) > len(outcomes):
        raise InvalidWeight(len(outcomes))
    shares = dict(zip(outcomes, value))
    for number, room in enumerate(book.rooms):
        if sum_of([shares[outcome] for outcome in room]) != FULL:
            raise InvalidWeight(len(outcomes) + 1 + number)


def is_weight(book, value):
    """Whether any value is a weight."""
    try:
        check_weight(book, value)
    except InvalidWeight:
        return False
    return True


def are_integers(value, many):
    """Whether any value is a tuple of so many integers."""
    return isinstance(value, tuple) and len(value) == many and all([is_integer(item) for item in value])


def check_factors(book, factors):
    """Raise InvalidNumber unless any value is a tuple with an integer for each outcome."""
    if not are_integers(factors, len(book.outcomes())):
        raise InvalidNumber("factors")


def factors_of(book, pairs):
    """For pairs (integer, saying), the sums of the integers of the sayings that have each outcome."""
    for _, saying in pairs:
        check_saying(book, saying)
    outcomes = book.outcomes()
    return tuple([sum([number for number, saying in pairs if name in saying]) for name in outcomes])


def weigh(book, weight, factors):
    """The total of a weight: the sum of its shares, each times its factor."""
    check_weight(book, weight)
    check_factors(book, factors)
    return sum_of([times(part, (factor, 1)) for part, factor in zip(weight, factors)])


def share(book, weight, saying):
    """The sum of the shares of the outcomes of a form of a saying."""
    check_weight(book, weight)
    check_saying(book, saying)
    _, lot = known_forms(book, saying)[0]
    return sum_of([part for part, outcome in zip(weight, book.outcomes()) if outcome in lot])


def blended(book, pairs):
    """For pairs (fraction, weight), the sum of the weights, each times its fraction."""
    for _, weight in pairs:
        check_weight(book, weight)
    fractions = [fraction for fraction, _ in pairs]
    if any([less(fraction, ZERO) for fraction in fractions]) or sum_of(fractions) != FULL:
        raise Refused("parts")
    total = tuple([ZERO for _ in book.outcomes()])
    for fraction, weight in pairs:
        total = tuple([plus(old, times(fraction, part)) for old, part in zip(total, weight)])
    return total


def even_weight(book):
    """The weight in which the outcomes of each room have equal shares, or None."""
    sizes = [[len(book.rooms[room]) for room in book.rooms_of(outcome)] for outcome in book.outcomes()]
    if any([min(own) < max(own) for own in sizes]):
        return None
    return tuple([(1, own[0]) for own in sizes])


def incidence(book):
    """For each room a list with 1 for each of its outcomes and 0 for each other one."""
    outcomes = book.outcomes()
    return [[1 if outcome in room else 0 for outcome in outcomes] for room in book.rooms]


def weight_of(stand):
    """The weight of a stand of the weights of a book."""
    return tuple([fraction_of(top, stand.bottom) for top in tops(stand)])


def some_weight(book):
    """Some weight, or some Weightless if there is none."""
    found = solved(incidence(book), [1 for _ in book.rooms])
    return weight_of(found) if isinstance(found, Stand) else Weightless(tuple(found))


def sums_at(book, numbers):
    """The sums of numbers, one for each room, at each outcome, as a list."""
    return [sum([numbers[room] for room in book.rooms_of(outcome)]) for outcome in book.outcomes()]


def check_some(book, value):
    """Whether any value is a weight, or a Weightless of the book."""
    if not isinstance(value, Weightless):
        return is_weight(book, value)
    numbers = value.numbers
    if not are_integers(numbers, len(book.rooms)):
        return False
    return sum(numbers) < 0 and min(sums_at(book, numbers)) >= 0


def sunk(book, numbers):
    """Numbers that are together at most 0, with no less a sum at any outcome; for a book without a weight."""
    # Those of a Weightless are together at most -1.
    many = max(0, sum(numbers))
    return tuple([own + many * step for own, step in zip(numbers, some_weight(book).numbers)])
