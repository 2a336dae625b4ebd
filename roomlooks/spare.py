"""Outcomes apart, and rooms that can still be put behind a book (points [9] and [10])."""

from roomlooks.basics import fresh_names, is_number_within, longer_lots, lots_without, rivals
from roomlooks.books import MOST_OUTCOMES, MOST_ROOMS
from roomlooks.errors import InvalidNumber


def apart_lots(book, size):
    """All lots of so many outcomes of the book that are apart, ascending."""
    if not is_number_within(size, 0, 5):
        raise InvalidNumber("size")
    return lots_without(book.outcomes(), rivals(book), size)


def room_with(book, names):
    """Some room with all of a lot of names that can be put behind the book, or None."""
    outcomes = book.outcomes()
    left = MOST_OUTCOMES - len(outcomes) - len([name for name in names if name not in outcomes])
    if len(book.rooms) == MOST_ROOMS or len(names) > 5 or left < 0 or not _are_apart(book, names):
        return None
    missing = max(0, 3 - len(names))
    added = fresh_names(outcomes + names, min(missing, left))
    return _with_outcomes(book, names + added, missing - len(added))


def _are_apart(book, names):
    return not any([_stand_together(book, one, other) for one in names for other in names])


def _stand_together(book, one, other):
    return one != other and book.room_of_two(one, other) is not None


def _with_outcomes(book, names, many):
    """The names with so many outcomes that are apart from them and each other, or None."""
    outcomes = [outcome for outcome in book.outcomes() if outcome not in names]
    free = [outcome for outcome in outcomes if _are_apart(book, names + (outcome,))]
    lots = [()]
    for _ in range(many):
        lots = longer_lots(lots, free, rivals(book))
    return tuple(sorted(names + lots[0])) if lots else None
