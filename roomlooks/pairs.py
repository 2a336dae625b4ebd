"""Sayings that stand together: cores and shades, rooms of many sayings (points [35] and [36])."""

from roomlooks.sayings import known_forms, known_opposite, known_together
from roomlooks.tables import four_meets, join, join_all, meet


def core(house, one, other):
    """The join of all four corners of two sayings."""
    return join_all(house, four_meets(house, one, other))


def shade(house, one, other):
    """The meet of a saying with the join of its opposite and another one."""
    return meet(house, one, join(house, known_opposite(house.book, one), other))


def common_rooms(book, sayings):
    """The numbers of the rooms that have forms of all sayings of a tuple, ascending."""
    rooms = list(range(len(book.rooms)))
    for saying in sayings:
        own = [room for room, _ in known_forms(book, saying)]
        rooms = [room for room in rooms if room in own]
    return tuple(rooms)


def are_together(book, sayings):
    """Whether a tuple of sayings stands two by two together."""
    return all([known_together(book, one, other) != () for one in sayings for other in sayings])


def count_together(book):
    """The number of pairs of sayings, equal or not, that stand together."""
    inner = sum([1 << (2 * len(room)) for room in book.rooms])
    again = sum([len(book.rooms_of(outcome)) - 1 for outcome in book.outcomes()])
    return inner - 4 * (len(book.rooms) - 1) - 12 * again
