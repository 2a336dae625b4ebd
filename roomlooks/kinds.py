"""Corners of sayings, and kinds of terms with two letters (points [33] and [34])."""

from roomlooks.books import Book
from roomlooks.errors import Refused
from roomlooks.rings import short_rings
from roomlooks.sayings import NONE, in_order, is_saying, known_opposite, whole
from roomlooks.tables import four_meets, join
from roomlooks.terms import is_letter, value_of
from roomlooks.verdicts import House

PARTS = ("none", "A", "B", "not A", "not B", "all")
TURNED_PARTS = {"none": "all", "A": "not A", "B": "not B", "not A": "A", "not B": "B", "all": "none"}
# The terms of the parts, of the corners, and of the opposite of the join of all corners.
PART_TERMS = {"A": ("A",), "B": ("B",), "not A": ("A", "not"), "not B": ("B", "not"), "all": ("all",)}
CORNER_TERMS = (
    ("A", "B", "and"),
    ("A", "B", "not", "and"),
    ("A", "not", "B", "and"),
    ("A", "not", "B", "not", "and"),
)
# The corners where the letters are true.
TRUE_CORNERS = {"A": (0, 1), "B": (0, 2), "none": (), "all": (0, 1, 2, 3)}


class Same:
    """Two terms have the same value in all houses, for all sayings."""

    def __init__(self, kind):
        self.kind = kind


class Unlike:
    """A house and two sayings for which two terms have unlike values."""

    def __init__(self, book, one, other, first, second):
        self.book = book
        self.one = one
        self.other = other
        self.first = first
        self.second = second


def corners_of(house, one, other):
    """The four corners of two sayings."""
    return four_meets(house, one, other)


def grown_from(house, sayings):
    """All sayings, in order, that can be worked out from none, all and a tuple of sayings."""
    book = house.book
    found = {NONE: True, whole(book): True}
    waiting = list(sayings)
    while waiting:
        saying = waiting.pop()
        if saying not in found:
            # The opposites are there, too, so that joins make all meets.
            waiting.append(known_opposite(book, saying))
            waiting.extend([join(house, saying, other) for other in found])
            found[saying] = True
    return in_order(list(found))


def kind_of(term):
    """The kind of a term with the letters A and B."""
    if any([is_letter(item) and item not in ("A", "B") for item in term]):
        raise Refused("letter")
    kinds = []
    for item in term:
        if item in TRUE_CORNERS:
            kinds.append((TRUE_CORNERS[item], item))
        elif item == "not":
            corners, part = kinds.pop()
            kinds.append((tuple([corner for corner in range(4) if corner not in corners]), TURNED_PARTS[part]))
        else:
            later = kinds.pop()
            kinds.append(_combined(item, kinds.pop(), later))
    return kinds[0]


def _combined(word, kind, later):
    """The kind of two terms with a word."""
    corners = [corner for corner in range(4) if _is_true(word, corner in kind[0], corner in later[0])]
    parts = (kind[1], later[1])
    if _part_implies(parts[1], parts[0]):
        parts = (parts[1], parts[0])
    # Two parts of which none implies the other meet in none and join to all.
    if not _part_implies(parts[0], parts[1]):
        parts = ("none", "all")
    return (tuple(corners), parts[0] if word == "and" else parts[1])


def _part_implies(part, later):
    return part == "none" or part == later or later == "all"


def _is_true(word, one, other):
    return (one and other) if word == "and" else (one or other)


def term_of_kind(kind):
    """Some term of a kind."""
    corners, part = kind
    term = ("none",) if part == "none" else PART_TERMS[part] + _term_of(CORNER_TERMS) + ("not", "and")
    return _term_of([CORNER_TERMS[corner] for corner in corners] + [term])


def _term_of(terms):
    """Terms put together by "or"."""
    found = ()
    for at, term in enumerate(terms):
        found = found + term + (("or",) if at else ())
    return found


def kind_value(house, kind, one, other):
    """The value of the terms of a kind."""
    return value_of(house, term_of_kind(kind), {"A": one, "B": other})


def kind_implies(kind, later):
    """Whether in all houses the values of terms of one kind imply those of the other."""
    if not all([corner in later[0] for corner in kind[0]]):
        return False
    return _part_implies(kind[1], later[1])


def compare_terms(first, second):
    """The Same of two terms, or some Unlike."""
    kind, later = kind_of(first), kind_of(second)
    if kind == later:
        return Same(kind)
    if kind[1] == later[1]:
        # In one room with an outcome for each corner, just the corners tell the value.
        book, one, other = Book((("a", "b", "c", "d"),)), ("a", "b"), ("a", "c")
    else:
        # Two outcomes of rooms that share nothing have no corners, so just the part tells it.
        book, one, other = Book((("a", "b", "c"), ("d", "e", "f"))), ("a",), ("d",)
    values = [value_of(House(book), term, {"A": one, "B": other}) for term in (first, second)]
    return Unlike(book, one, other, values[0], values[1])


def check_unlike(first, second, value):
    """Whether any value is an Unlike of two terms."""
    if not isinstance(value, Unlike) or not isinstance(value.book, Book) or short_rings(value.book):
        return False
    sayings = (value.one, value.other, value.first, value.second)
    if not all([is_saying(value.book, saying) for saying in sayings]) or value.first == value.second:
        return False
    house, given = House(value.book), {"A": value.one, "B": value.other}
    return (value_of(house, first, given), value_of(house, second, given)) == sayings[2:]
