"""What a new room changes in the joins of a house (point [88])."""

from roomlooks.books import Book
from roomlooks.errors import Refused
from roomlooks.orders import implying
from roomlooks.rings import short_rings
from roomlooks.sayings import known_opposite, pair_order, saying_order, written


def changed_joins(book, room):
    """All (one, other, join) of two sayings of the book whose join a new last room changes."""
    longer = Book(book.rooms + (room,))
    if short_rings(longer):
        raise Refused("torn")
    lot = [outcome for outcome in room if book.rooms_of(outcome)]
    found = _joins_of_two(longer, lot) + _joins_below(book, lot)
    return tuple(sorted(found, key=pair_order))


def _joins_of_two(longer, lot):
    """The joins that two outcomes get because the new room has both."""
    last = len(longer.rooms) - 1
    pairs = [(one, other) for one in lot for other in lot if one < other]
    return [((one,), (other,), written(longer, last, (one, other))) for one, other in pairs]


def _joins_below(book, lot):
    """The joins of an outcome and a saying below the opposite of another outcome of the room."""
    found = []
    for one in lot:
        for other in lot:
            if one != other:
                found.extend([_joined_below(book, (one,), saying, other) for saying in _below(book, other)])
    return found


def _joined_below(book, single, saying, other):
    first, second = sorted([single, saying], key=saying_order)
    return (first, second, known_opposite(book, (other,)))


def _below(book, outcome):
    """The sayings but none that imply the opposite of an outcome."""
    return [saying for saying in implying(book, known_opposite(book, (outcome,))) if saying]


def count_changed(book, lot):
    """How many pairs get a new join if a new room shares just a free lot with a house."""
    pairs = len(lot) * (len(lot) - 1) // 2
    return pairs + (len(lot) - 1) * sum([len(_below(book, outcome)) for outcome in lot])
