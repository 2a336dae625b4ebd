"""Straight rows of three sayings, and books in which all are straight (points [48] and [49])."""

from roomlooks.errors import Refused
from roomlooks.orders import implied, implying
from roomlooks.sayings import (
    NONE,
    all_sayings,
    home_bits,
    is_saying,
    known_implies,
    known_opposite,
    known_together,
    whole,
)
from roomlooks.tables import join, meet


class Straight:
    """Shows that all rows are straight: by an outcome of all rooms, or None for one room."""

    def __init__(self, pivot):
        self.pivot = pivot


class Bent:
    """Three sayings that are bent."""

    def __init__(self, low, high, other):
        self.low = low
        self.high = high
        self.other = other


def _check_order(house, low, high):
    if not known_implies(house.book, low, high):
        raise Refused("order")


def straight_sides(house, low, high, other):
    """The pair of high and (low or other), and of low or (high and other)."""
    _check_order(house, low, high)
    return (meet(house, high, join(house, low, other)), join(house, low, meet(house, high, other)))


def straight_door(house, low, high, other):
    """The number of the open door of three sayings, or None if they are bent."""
    _check_order(house, low, high)
    book = house.book
    if known_together(book, _less(house, high, low), other):
        return 0
    if not known_together(book, low, meet(house, high, other)):
        return 1
    if not known_together(book, high, join(house, low, other)):
        return 2
    return None


def _less(house, high, low):
    """A saying less one that implies it."""
    return meet(house, high, known_opposite(house.book, low))


def count_straight(house):
    """For how many (low, high, other), in which low implies high, doors 0, 1 and 2 are open."""
    book = house.book
    homes = {saying: home_bits(book, saying) for saying in all_sayings(book)}
    bits = list(homes.values())
    first, second = 0, 0
    for high in homes:
        lows = implying(book, high)
        lesses = [homes[_less(house, high, low)] for low in lows]
        first = first + sum([_count_meeting(bits, own) * many for own, many in _counted(lesses)])
        meets = _counted([meet(house, high, other) for other in homes])
        low_bits = [homes[low] for low in lows]
        for saying, many in meets:
            second = second + many * (len(lows) - _count_meeting(low_bits, homes[saying]))
    # Turned to their opposites, the triples of door 1 are those of door 2.
    return (first, second, second)


def _counted(values):
    """Pairs of each value of a list and how often it stands there."""
    counts = {}
    for value in values:
        counts[value] = counts.get(value, 0) + 1
    return list(counts.items())


def _count_meeting(bits, own):
    """How many of some integers have a bit of this one."""
    return len([other for other in bits if other & own])


def straight_court(house):
    """The Straight of a house in which all rows are straight, otherwise some Bent."""
    book = house.book
    if len(book.rooms) == 1:
        return Straight(None)
    pivots = [outcome for outcome in book.shared() if _is_pivot(book, outcome)]
    return Straight(pivots[0]) if pivots else _some_bent(house)


def _is_pivot(book, outcome):
    """Whether any value is an outcome of all rooms, which have three outcomes each."""
    if len(book.rooms_of(outcome)) < len(book.rooms):
        return False
    return all([len(room) == 3 for room in book.rooms])


def _some_bent(house):
    """The first bent sayings of a house that has some, the lower two neither none nor all."""
    sayings = all_sayings(house.book)
    proper = [saying for saying in sayings if saying not in (NONE, whole(house.book))]
    for low in proper:
        for high in implied(house.book, low):
            for other in sayings:
                if straight_door(house, low, high, other) is None:
                    return Bent(low, high, other)
    return None


def check_straightness(house, value):
    """Whether any value is a Straight of the house or a Bent of bent sayings."""
    book = house.book
    if isinstance(value, Straight):
        return (value.pivot is None and len(book.rooms) == 1) or _is_pivot(book, value.pivot)
    if not isinstance(value, Bent):
        return False
    if not all([is_saying(book, saying) for saying in (value.low, value.high, value.other)]):
        return False
    if not known_implies(book, value.low, value.high):
        return False
    return straight_door(house, value.low, value.high, value.other) is None
