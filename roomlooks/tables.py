"""Joins and meets in a house (point [28])."""

from roomlooks.sayings import NONE, known_forms, known_opposite, whole, written


def join(house, one, other):
    """The join of two sayings."""
    book = house.book
    lots = dict(known_forms(book, other))
    for room, lot in known_forms(book, one):
        if room in lots:
            return written(book, room, tuple(sorted(set(lot + lots[room]))))
    for outcome in book.shared():
        if _excludes(book, outcome, one) and _excludes(book, outcome, other):
            return known_opposite(book, (outcome,))
    return whole(book)


def _excludes(book, outcome, saying):
    """Whether an outcome and a saying exclude one another."""
    own = known_forms(book, saying)
    return any([outcome in book.rooms[room] and outcome not in lot for room, lot in own])


def meet(house, one, other):
    """The meet of two sayings."""
    book = house.book
    return known_opposite(book, join(house, known_opposite(book, one), known_opposite(book, other)))


def join_all(house, sayings):
    """The join of a tuple of sayings; none for no sayings."""
    total = NONE
    for saying in sayings:
        total = join(house, total, saying)
    return total


def meet_all(house, sayings):
    """The meet of a tuple of sayings; all for no sayings."""
    total = whole(house.book)
    for saying in sayings:
        total = meet(house, total, saying)
    return total


def four_meets(house, one, other):
    """The meets of `one` or its opposite with `other` or its opposite: the corners of the two."""
    ones = (one, known_opposite(house.book, one))
    others = (other, known_opposite(house.book, other))
    return tuple([meet(house, first, second) for first in ones for second in others])
