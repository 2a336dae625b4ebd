"""Told shares, and weights that have them (points [62] and [63])."""

from roomlooks.basics import check_outcome, check_room
from roomlooks.errors import InvalidNumber, Refused
from roomlooks.fractions import common_bottom, fraction_of, is_fraction, less, sum_of, times
from roomlooks.simplex import Stand, lowered, solved, tops
from roomlooks.weights import FULL, are_integers, is_weight, sums_at


class Completed:
    """A weight that has all told shares."""

    def __init__(self, weight):
        self.weight = weight


class Blocked:
    """Numbers that show that no weight has all told shares."""

    def __init__(self, numbers):
        self.numbers = numbers


class Task:
    """What is left to be done: the outcomes that are not told, and rows that their shares must keep.

    All shares are integers here, told in a unit.
    """

    def __init__(self, book, told):
        self.unit = common_bottom(list(told.values()))
        self.told = {name: told[name][0] * (self.unit // told[name][1]) for name in told}
        self.names = [name for name in book.outcomes() if name not in told]
        self.rows = [[1 if name in room else 0 for name in self.names] for room in book.rooms]
        self.sides = [self.unit - sum([self.told.get(name, 0) for name in room]) for room in book.rooms]


def _is_share(value):
    return is_fraction(value) and value[0] >= 0


def _check_told(book, told):
    if not isinstance(told, dict):
        raise Refused("told")
    for key in told:
        if not book.rooms_of(key) or not _is_share(told[key]):
            raise Refused("told")


def complete_shares(book, told):
    """Some Completed for told shares, or some Blocked."""
    _check_told(book, told)
    task = Task(book, told)
    # Each row may be missed by more or by less; what is missed in all is made as little as can be.
    # So the numbers that show how little that is are no greater than the bottom, either way.
    rooms = range(len(book.rooms))
    more = [[1 if room == at else 0 for room in rooms] for at in rooms]
    less_by = [[-entry for entry in row] for row in more]
    matrix = [task.rows[at] + more[at] + less_by[at] for at in rooms]
    costs = [0] * len(task.names) + [1] * (2 * len(book.rooms))
    stand, numbers = lowered(solved(matrix, task.sides), costs)
    if sum([number * side for number, side in zip(numbers, task.sides)]) > 0:
        return Blocked(tuple([-number for number in numbers]))
    left = dict(zip(task.names, tops(stand)))
    return Completed(tuple([_share_of(told, left, name, stand.bottom * task.unit) for name in book.outcomes()]))


def _share_of(told, left, name, bottom):
    return told[name] if name in told else fraction_of(left[name], bottom)


def check_completed(book, told, value):
    """Whether any value is a Completed or a Blocked for told shares."""
    _check_told(book, told)
    if isinstance(value, Completed):
        return is_weight(book, value.weight) and _has_told(book, told, value.weight)
    return isinstance(value, Blocked) and _blocks(book, told, value.numbers)


def _has_told(book, told, weight):
    shares = dict(zip(book.outcomes(), weight))
    return all([shares[name] == told[name] for name in told])


def _blocks(book, told, numbers):
    if not are_integers(numbers, len(book.rooms)):
        return False
    sums = dict(zip(book.outcomes(), sums_at(book, numbers)))
    if any([sums[name] < 0 for name in sums if name not in told]):
        return False
    total = sum_of([times(told[name], (sums[name], 1)) for name in told])
    return less((sum(numbers), 1), total)


def share_range(book, told, outcome):
    """The least and the greatest share that weights with told shares give an outcome, or None."""
    _check_told(book, told)
    check_outcome(book, outcome)
    task = Task(book, told)
    stand = solved(task.rows, task.sides)
    if not isinstance(stand, Stand):
        return None
    if outcome in told:
        return (told[outcome], told[outcome])
    return (_least_share(task, stand, outcome, 1), _least_share(task, stand, outcome, -1))


def _least_share(task, stand, outcome, cost):
    """The share of an outcome where this share, times a cost, is least."""
    lower, _ = lowered(stand, [cost if name == outcome else 0 for name in task.names])
    return fraction_of(tops(lower)[task.names.index(outcome)], lower.bottom * task.unit)


def grow(book, room, shares):
    """Some Completed for shares of the outcomes of a room, in order, or some Blocked."""
    check_room(book, room, "room")
    outcomes = book.rooms[room]
    if not isinstance(shares, tuple) or len(shares) != len(outcomes):
        raise InvalidNumber("shares")
    if not all([_is_share(part) for part in shares]) or sum_of(shares) != FULL:
        raise InvalidNumber("shares")
    return complete_shares(book, dict(zip(outcomes, shares)))
