"""Least and greatest totals, outcomes that never come, and shifts (points [53] to [56])."""

from roomlooks.basics import is_integer
from roomlooks.errors import InvalidNumber, NoWeight, Refused
from roomlooks.fractions import fraction_of, is_fraction, less, minus, ratio
from roomlooks.simplex import Stand, directions, lowered, solved
from roomlooks.weights import (
    are_integers,
    blended,
    check_factors,
    factors_of,
    incidence,
    is_weight,
    sums_at,
    weigh,
    weight_of,
)


class Least:
    """The least total, a weight that has it, and numbers that show that none is less."""

    def __init__(self, value, weight, numbers, bottom):
        self.value = value
        self.weight = weight
        self.numbers = numbers
        self.bottom = bottom


class Greatest:
    """The greatest total, a weight that has it, and numbers that show that none is greater."""

    def __init__(self, value, weight, numbers, bottom):
        self.value = value
        self.weight = weight
        self.numbers = numbers
        self.bottom = bottom


class Full:
    """A weight, and numbers that show that the outcomes with the share 0 in it never come."""

    def __init__(self, weight, numbers):
        self.weight = weight
        self.numbers = numbers


def weights_stand(book):
    """Some stand of all weights of a book; NoWeight is raised if there is none."""
    found = solved(incidence(book), [1 for _ in book.rooms])
    if not isinstance(found, Stand):
        raise NoWeight()
    return found


def least_total(book, factors):
    """Some Least for factors."""
    check_factors(book, factors)
    stand, numbers = lowered(weights_stand(book), factors)
    value = fraction_of(sum(numbers), stand.bottom)
    return Least(value, weight_of(stand), tuple(numbers), stand.bottom)


def greatest_total(book, factors):
    """Some Greatest for factors."""
    check_factors(book, factors)
    stand, numbers = lowered(weights_stand(book), [-factor for factor in factors])
    value = fraction_of(-sum(numbers), stand.bottom)
    return Greatest(value, weight_of(stand), tuple([-number for number in numbers]), stand.bottom)


def check_least(book, factors, value):
    """Whether any value is a Least for factors."""
    check_factors(book, factors)
    if not isinstance(value, Least) or not _is_bound(book, factors, value):
        return False
    sums = sums_at(book, value.numbers)
    return all([total <= value.bottom * factor for total, factor in zip(sums, factors)])


def check_greatest(book, factors, value):
    """Whether any value is a Greatest for factors."""
    check_factors(book, factors)
    if not isinstance(value, Greatest) or not _is_bound(book, factors, value):
        return False
    sums = sums_at(book, value.numbers)
    return all([total >= value.bottom * factor for total, factor in zip(sums, factors)])


def _is_bound(book, factors, bound):
    """Whether the weight of a bound has its total, and its numbers are together as they must be."""
    if not is_fraction(bound.value) or not is_weight(book, bound.weight):
        return False
    if not are_integers(bound.numbers, len(book.rooms)) or not is_integer(bound.bottom):
        return False
    if bound.bottom < 1 or weigh(book, bound.weight, factors) != bound.value:
        return False
    return fraction_of(sum(bound.numbers), bound.bottom) == bound.value


def weight_at(book, factors, value):
    """Some weight with a total."""
    check_factors(book, factors)
    if not is_fraction(value):
        raise InvalidNumber("value")
    low, high = least_total(book, factors), greatest_total(book, factors)
    if less(value, low.value) or less(high.value, value):
        raise Refused("value")
    if low.value == high.value:
        return low.weight
    part = ratio(minus(value, low.value), minus(high.value, low.value))
    return blended(book, ((minus((1, 1), part), low.weight), (part, high.weight)))


def least_share(book, saying):
    """Some Least for the share of a saying."""
    return least_total(book, factors_of(book, ((1, saying),)))


def greatest_share(book, saying):
    """Some Greatest for the share of a saying."""
    return greatest_total(book, factors_of(book, ((1, saying),)))


def full_weight(book):
    """Some Full of a book."""
    stand = weights_stand(book)
    found = [weight_of(stand)]
    while True:
        # The outcomes that have no share yet are asked for as much as they can have together.
        stand, numbers = lowered(stand, [-1 if _is_missing(found, at) else 0 for at in range(stand.many())])
        if sum(numbers) == 0:
            pairs = tuple([((1, len(found)), weight) for weight in found])
            return Full(blended(book, pairs), tuple([-number for number in numbers]))
        found.append(weight_of(stand))


def _is_missing(weights, at):
    """Whether the outcome at a place has the share 0 in all of these weights."""
    return not any([weight[at][0] for weight in weights])


def check_full(book, value):
    """Whether any value is a Full of the book."""
    if not isinstance(value, Full) or not is_weight(book, value.weight):
        return False
    if not are_integers(value.numbers, len(book.rooms)) or sum(value.numbers) != 0:
        return False
    sums = sums_at(book, value.numbers)
    return all([total == 0 if part[0] else total > 0 for total, part in zip(sums, value.weight)])


def never(book):
    """The lot of the outcomes with the share 0 in all weights."""
    weight = full_weight(book).weight
    return tuple([outcome for outcome, part in zip(book.outcomes(), weight) if not part[0]])


def shifts(book):
    """Some basis of all shifts."""
    gone = never(book)
    outcomes = book.outcomes()
    rows = [[1 if name in room else 0 for name in outcomes if name not in gone] for room in book.rooms]
    found = []
    for entries in directions(solved(rows, [1 for _ in rows])):
        table = dict(zip([name for name in outcomes if name not in gone], entries))
        found.append(tuple([table.get(name, 0) for name in outcomes]))
    return tuple(found)


def freedom(book):
    """How many shifts a basis has."""
    return len(shifts(book))
