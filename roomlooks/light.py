"""Light lots, hidden rooms, and weights that another book has not (point [61])."""

from roomlooks.basics import is_lot_of, longer_lots, rivals
from roomlooks.bounds import greatest_total, least_total, shifts, weights_stand
from roomlooks.errors import NoWeight, Refused
from roomlooks.fractions import common_bottom, less
from roomlooks.weights import FULL, weight_of


def _factors(book, lot):
    return tuple([1 if name in lot else 0 for name in book.outcomes()])


def is_light(book, lot):
    """Whether no weight gives the outcomes of a lot together more than 1."""
    if not is_lot_of(lot, book.outcomes()):
        raise Refused("lot")
    try:
        return not less(FULL, greatest_total(book, _factors(book, lot)).value)
    except NoWeight:
        return True


def hidden_rooms(book):
    """The lots of three to five outcomes apart that have 1 together in all weights, ascending."""
    weight = weight_of(weights_stand(book))
    unit = common_bottom(weight)
    # A lot has 1 in all weights if it has 1 in one of them and no shift changes that.
    rows = [([top * (unit // bottom) for top, bottom in weight], unit)]
    rows = rows + [(list(shift), 0) for shift in shifts(book)]
    found = _apart_lots(book)
    for entries, wanted in rows:
        table = dict(zip(book.outcomes(), entries))
        found = [lot for lot in found if sum([table[name] for name in lot]) == wanted]
    return tuple(sorted(found))


def _apart_lots(book):
    """All lots of three to five outcomes no two of which are in a room together, as a list."""
    near = rivals(book)
    found, lots = [], [()]
    for size in range(1, 6):
        lots = longer_lots(lots, book.outcomes(), near)
        found.extend(lots if size > 2 else [])
    return found


def odd_weight(book, other):
    """Some weight of a book that is none of another one, or None."""
    if book.outcomes() != other.outcomes():
        raise Refused("outcomes")
    try:
        for room in other.rooms:
            factors = _factors(book, room)
            for bound in (least_total(book, factors), greatest_total(book, factors)):
                if bound.value != FULL:
                    return bound.weight
    except NoWeight:
        return None
    return None
