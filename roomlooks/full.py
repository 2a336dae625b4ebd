"""Full books: each outcome in two rooms, all rooms of one size (point [95])."""

from roomlooks.basics import LETTERS, is_number_within
from roomlooks.books import Book
from roomlooks.errors import InvalidNumber, Refused

# Each outcome is a pair of the numbers of its two rooms.
PETERSEN = (
    (0, 1), (1, 2), (2, 3), (3, 4), (0, 4),
    (0, 5), (1, 6), (2, 7), (3, 8), (4, 9),
    (5, 7), (7, 9), (6, 9), (6, 8), (5, 8),
)


def is_full(book):
    """Whether each outcome belongs to just two rooms and all rooms have one size."""
    if any([len(book.rooms_of(outcome)) != 2 for outcome in book.outcomes()]):
        return False
    return not any([len(room) != len(book.rooms[0]) for room in book.rooms])


def least_rooms(size, ring):
    """How many rooms a full book without shorter rings has at least."""
    if not is_number_within(size, 3, 5):
        raise InvalidNumber("size")
    if not is_number_within(ring, 3, 10):
        raise InvalidNumber("ring")
    if ring & 1:
        return 1 + size * _sum_of_powers(size - 1, (ring - 1) // 2)
    return 2 * _sum_of_powers(size - 1, ring // 2)


def _sum_of_powers(base, many):
    total = 0
    for _ in range(many):
        total = total * base + 1
    return total


def least_full(size, ring):
    """Some full book of the least number of rooms, where 24 outcomes and ten rooms allow one."""
    many = least_rooms(size, ring)
    if ring == 3:
        return _book_of_pairs(many, _all_pairs(many))
    if ring == 4 and size < 5:
        return _book_of_pairs(many, _pairs_across(size))
    if ring == 5 and size == 3:
        return _book_of_pairs(many, PETERSEN)
    raise Refused("wide")


def _all_pairs(many):
    return [(one, other) for other in range(many) for one in range(other)]


def _pairs_across(size):
    return [(one, size + other) for one in range(size) for other in range(size)]


def _book_of_pairs(many, pairs):
    rooms = [
        tuple([LETTERS[at] for at, pair in enumerate(pairs) if room in pair])
        for room in range(many)
    ]
    return Book(tuple(rooms))
