"""Books that are alike, and their orders (point [41])."""

from roomlooks.basics import LETTERS
from roomlooks.books import Book
from roomlooks.sayings import known_forms, written
from roomlooks.shapes import shape_of
from roomlooks.told import told_back


def _carried_lot(names, lot):
    return tuple(sorted([names[outcome] for outcome in lot]))


def carries(book, other, names):
    """Whether any value is a dict with just the outcomes of a book that carries it onto another one."""
    if not isinstance(names, dict) or not all([isinstance(key, str) for key in names]):
        return False
    if tuple(sorted(names)) != book.outcomes():
        return False
    used = list(names.values())
    if not all([isinstance(name, str) for name in used]) or len(set(used)) < len(used):
        return False
    return sorted([_carried_lot(names, room) for room in book.rooms]) == sorted(other.rooms)


def alike(book, other):
    """Some dict that carries a book onto another one, or None."""
    rows, outcomes = shape_of(book)
    later_rows, names = shape_of(other)
    return dict(zip(outcomes, names)) if rows == later_rows else None


def one_form(book):
    """The book that is alike to a book and the same for all that are alike."""
    rows, _ = shape_of(book)
    named = list(zip(LETTERS, rows))
    rooms = [tuple([name for name, row in named if room in row]) for room in range(len(book.rooms))]
    return Book(tuple(rooms))


def order_alike(one, other):
    """Some tuple of the numbers of one order in place of those of the other, or None."""
    first, sayings = told_back(one)
    second, later = told_back(other)
    names = alike(first, second)
    if names is None:
        return None
    return tuple([later.index(_carried_saying(first, second, names, saying)) for saying in sayings])


def _carried_saying(book, other, names, saying):
    """The saying of another book for a saying of a book that is carried onto it."""
    room, lot = known_forms(book, saying)[0]
    home = other.rooms.index(_carried_lot(names, book.rooms[room]))
    return written(other, home, _carried_lot(names, lot))
