"""Rooms from which all shares grow to a weight of the book (point [62])."""

from roomlooks.basics import check_room, is_integer
from roomlooks.bounds import greatest_total
from roomlooks.errors import NoWeight
from roomlooks.weights import FULL, are_integers, is_weight, share, sums_at, sunk


class Growing:
    """For each outcome of a room a weight that gives it 1."""

    def __init__(self, weights):
        self.weights = weights


class Stunted:
    """An outcome of a room, and numbers that show that each weight gives it less than 1."""

    def __init__(self, outcome, numbers, bottom):
        self.outcome = outcome
        self.numbers = numbers
        self.bottom = bottom


def room_growth(book, room):
    """Some Growing of a room, or some Stunted."""
    check_room(book, room, "room")
    weights = []
    for outcome in book.rooms[room]:
        try:
            found = greatest_total(book, tuple([1 if name == outcome else 0 for name in book.outcomes()]))
        except NoWeight:
            return Stunted(outcome, sunk(book, [1 if at == room else 0 for at in range(len(book.rooms))]), 1)
        if found.value != FULL:
            return Stunted(outcome, found.numbers, found.bottom)
        weights.append(found.weight)
    return Growing(tuple(weights))


def check_room_growth(book, room, value):
    """Whether any value is a Growing or a Stunted of a room."""
    check_room(book, room, "room")
    if isinstance(value, Growing):
        return isinstance(value.weights, tuple) and _are_growing(book, room, value.weights)
    return isinstance(value, Stunted) and _is_stunted(book, room, value)


def _are_growing(book, room, weights):
    if len(weights) != len(book.rooms[room]) or not all([is_weight(book, weight) for weight in weights]):
        return False
    pairs = list(zip(book.rooms[room], weights))
    return all([share(book, weight, (outcome,)) == FULL for outcome, weight in pairs])


def _is_stunted(book, room, value):
    numbers, bottom = value.numbers, value.bottom
    if room not in book.rooms_of(value.outcome) or not are_integers(numbers, len(book.rooms)):
        return False
    if not is_integer(bottom) or not bottom > max(0, sum(numbers)):
        return False
    sums = dict(zip(book.outcomes(), sums_at(book, numbers)))
    return sums[value.outcome] >= bottom and min(list(sums.values())) >= 0
