"""Least uppers and greatest lowers of sayings in any book (point [29])."""

from roomlooks.orders import below, implied
from roomlooks.sayings import NONE, in_order, is_saying, known_opposite


def least_above_all(book, sayings):
    """The least uppers of a tuple of sayings, in order."""
    uppers = {saying: True for saying in implied(book, NONE)}
    for saying in sayings:
        uppers = {upper: True for upper in implied(book, saying) if upper in uppers}
    # From another upper a chain leads up to one that is not least, so one just below it is an upper.
    least = [upper for upper in uppers if not any([lower in uppers for lower in below(book, upper)])]
    return in_order(least)


def least_above(book, one, other):
    """The least uppers of two sayings, in order."""
    return least_above_all(book, (one, other))


def greatest_below(book, one, other):
    """The greatest lowers of two sayings, in order."""
    uppers = least_above(book, known_opposite(book, one), known_opposite(book, other))
    return in_order([known_opposite(book, upper) for upper in uppers])


def most_above(book):
    """The greatest number of least uppers that two sayings have."""
    # No two sayings have more than two outcomes do, one of each: these exclude no fewer outcomes.
    names = book.outcomes()
    pairs = [(one, other) for one in names for other in names if one < other]
    return max([len(least_above(book, (one,), (other,))) for one, other in pairs])


def is_join(book, one, other, value):
    """Whether any value is the join of two sayings."""
    return is_saying(book, value) and least_above(book, one, other) == (value,)


def is_meet(book, one, other, value):
    """Whether any value is the meet of two sayings."""
    return is_saying(book, value) and greatest_below(book, one, other) == (value,)
