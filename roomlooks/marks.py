"""Marks: lots of outcomes of which each room has an odd number (point [67])."""

from roomlooks.basics import is_lot_of, is_room_lot


class Marks:
    """A lot of outcomes of which each room has an odd number."""

    def __init__(self, lot):
        self.lot = lot


class OddRooms:
    """An odd number of rooms such that each outcome belongs to an even number of them."""

    def __init__(self, rooms):
        self.rooms = rooms


def marks(book):
    """Some Marks of a book, or some OddRooms if there are none."""
    outcomes = book.outcomes()
    solved = {}
    for number, room in enumerate(book.rooms):
        row = ({outcome: True for outcome in room}, {number: True})
        for pivot in solved:
            if pivot in row[0]:
                row = _merged(row, solved[pivot])
        names, rooms = row
        if names:
            pivot = min(list(names))
            solved = {old: _cleared(solved[old], pivot, row) for old in solved}
            solved[pivot] = row
        elif len(rooms) & 1:
            return OddRooms(tuple(sorted(rooms)))
    # All outcomes that are no pivot are left out, so a pivot is in if its row asks for oddness.
    return Marks(tuple([name for name in outcomes if name in solved and len(solved[name][1]) & 1]))


def _merged(row, other):
    """What is in just one of two rows, for their outcomes and for the rooms they are made of."""
    return (_in_one(row[0], other[0]), _in_one(row[1], other[1]))


def _in_one(table, other):
    left = [item for item in table if item not in other]
    right = [item for item in other if item not in table]
    return {item: True for item in left + right}


def _cleared(row, pivot, other):
    return _merged(row, other) if pivot in row[0] else row


def check_marks(book, value):
    """Whether any value is a Marks or an OddRooms of the book."""
    if isinstance(value, Marks):
        return _are_marks(book, value.lot)
    return isinstance(value, OddRooms) and _are_odd_rooms(book, value.rooms)


def _are_marks(book, lot):
    if not is_lot_of(lot, book.outcomes()):
        return False
    return all([_is_odd([outcome for outcome in room if outcome in lot]) for room in book.rooms])


def _are_odd_rooms(book, rooms):
    if not is_room_lot(book, rooms) or not _is_odd(rooms):
        return False
    homes = [book.rooms_of(outcome) for outcome in book.outcomes()]
    return not any([_is_odd([room for room in own if room in rooms]) for own in homes])


def _is_odd(items):
    return len(items) & 1 == 1
