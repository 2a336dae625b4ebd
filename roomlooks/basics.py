"""Checks of values and small steps that several modules share."""

from roomlooks.errors import InvalidNumber, Refused

LETTERS = "abcdefghijklmnopqrstuvwxyz"
MOST_LOTS = 1000


def is_integer(value):
    """Whether any value is an integer; True and False are none."""
    return isinstance(value, int) and not isinstance(value, bool)


def is_number(value):
    """Whether any value is an integer from 0 on."""
    return is_integer(value) and value >= 0


def is_number_within(value, low, high):
    """Whether any value is an integer from low to high."""
    return is_integer(value) and low <= value <= high


def is_name(value):
    """Whether any value is a string of 1 to 5 lower-case letters."""
    if not isinstance(value, str) or not 1 <= len(value) <= 5:
        return False
    return all([sign in LETTERS for sign in value])


def is_ascending(values):
    """Whether each of the values, which compare, is less than the next one."""
    return all([values[k - 1] < values[k] for k in range(1, len(values))])


def is_lot_of(value, names):
    """Whether any value is a lot of some of these names."""
    if not isinstance(value, tuple):
        return False
    if not all([isinstance(item, str) and item in names for item in value]):
        return False
    return is_ascending(value)


def is_room_number(book, value):
    """Whether any value is the number of a room of the book."""
    return is_number_within(value, 0, len(book.rooms) - 1)


def check_room(book, value, word):
    """Raise InvalidNumber with this word unless the value is the number of a room."""
    if not is_room_number(book, value):
        raise InvalidNumber(word)


def is_room_lot(book, value):
    """Whether any value is a lot of numbers of rooms."""
    if not isinstance(value, tuple) or not all([is_room_number(book, item) for item in value]):
        return False
    return is_ascending(value)


def is_look(book, value):
    """Whether any value is a pair of the number of a room and an outcome of it."""
    if not isinstance(value, tuple) or len(value) != 2:
        return False
    room, outcome = value
    return is_room_number(book, room) and room in book.rooms_of(outcome)


def check_outcome(book, value):
    """Raise Refused unless the value is an outcome of the book."""
    if not book.rooms_of(value):
        raise Refused("outcome")


def fresh_names(taken, many):
    """The first names that are not taken: one letter before two, otherwise ascending."""
    longer = [one + other for one in LETTERS for other in LETTERS]
    return tuple([name for name in list(LETTERS) + longer if name not in taken][:many])


def rivals(book):
    """A dict from each outcome to the lot of the unlike outcomes that a room has beside it."""
    return {outcome: _beside(book, outcome) for outcome in book.outcomes()}


def _beside(book, outcome):
    homes = [book.rooms[room] for room in book.rooms_of(outcome)]
    return tuple(sorted([other for room in homes for other in room if other != outcome]))


def steps_from(near, starts):
    """A dict from each item that can be reached to its steps from the nearest start.

    `near` is a dict from each item to those that one step leads to.
    """
    found = {start: 0 for start in starts}
    front = list(starts)
    while front:
        later = []
        for item in front:
            for other in near[item]:
                if other not in found:
                    found[other] = found[item] + 1
                    later.append(other)
        front = later
    return found


def way_down(near, steps, start):
    """From the start to the nearest item with no step left, always to the first nearer item."""
    way = (start,)
    for left in range(steps[start] - 1, -1, -1):
        nearer = [item for item in near[way[-1]] if steps[item] == left]
        way = way + (nearer[0],)
    return way


def count_bits(bits):
    """How many bits of an integer from 0 on are set."""
    return f"{bits:b}".count("1")


def hanging_lots(near):
    """The lots of the keys of a dict that hang together, as `near` leads from each to others."""
    lots = sorted([tuple(sorted(steps_from(near, [item]))) for item in near])
    return tuple(list({lot: True for lot in lots}))


def longer_lots(lots, names, clashes):
    """The lots of a list with one more of these ascending names, behind and not clashing."""
    return [lot + (name,) for lot in lots for name in names if _may_end(lot, name, clashes)]


def _may_end(lot, name, clashes):
    if lot and not lot[-1] < name:
        return False
    return not any([name in clashes[item] for item in lot])


def may_grow(lot, clashes):
    """Whether some name that the lot lacks clashes with none of its names."""
    others = [name for name in clashes if name not in lot]
    return any([not any([name in clashes[item] for item in lot]) for name in others])


def lots_without(names, clashes, size):
    """All lots of so many of these ascending names no two of which clash, ascending.

    `clashes` is a dict from each name to those that clash with it. Refused("wide") is raised
    if of some size on the way there are more lots than the document allows.
    """
    lots = [()]
    for _ in range(size):
        lots = longer_lots(lots, names, clashes)
        if len(lots) > MOST_LOTS:
            raise Refused("wide")
    return tuple(lots)
