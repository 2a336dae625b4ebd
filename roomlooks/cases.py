"""Cases: why no setting has all outcomes of a row (point [66])."""

from roomlooks.basics import is_room_number
from roomlooks.errors import Refused
from roomlooks.settings import Exclusions, all_choices, all_settings, check_told, setting_of

MOST_INSIDE = 20


class Cases:
    """For each outcome of a room, why no setting has it beside the outcomes of a row."""

    def __init__(self, room, parts):
        self.room = room
        self.parts = parts


def some_setting(book, told=()):
    """The first setting with the told outcomes, or some Cases for them."""
    check_told(book, told)
    found = all_choices(book, told)
    if found:
        return setting_of(found[0])
    exclusions = Exclusions(book)
    return _cases(exclusions, told, exclusions.out_of(told))


def _cases(exclusions, row, out):
    """Some Cases for a row that excludes the outcomes with these bits."""
    room = _tightest_room(exclusions, row, out)
    left = exclusions.left_in(room, out)
    parts = []
    for outcome in exclusions.book.rooms[room]:
        if outcome in left:
            parts.append(_cases(exclusions, row + (outcome,), out | exclusions.masks[outcome]))
        else:
            parts.append(None)
    return Cases(room, tuple(parts))


def _tightest_room(exclusions, row, out):
    """The room with the fewest outcomes left, of those for which the row has not chosen one."""
    many = len(exclusions.book.rooms)
    lefts = [(room, exclusions.left_in(room, out)) for room in range(many)]
    sizes = [(len(left), room) for room, left in lefts if not any([item in row for item in left])]
    return min(sizes)[1]


def check_cases(book, told, value):
    """Whether any value is a Cases for the told outcomes."""
    check_told(book, told)
    exclusions = Exclusions(book)
    return _close(exclusions, exclusions.out_of(told), value, MOST_INSIDE, {})


def _close(exclusions, out, value, inside, known):
    """Whether a value is a Cases for a row that excludes the outcomes with these bits.

    `known` keeps what is found: one Cases may stand at many places inside another one, and
    would take very long if it were looked through at each of them.
    """
    if inside == 0 or not isinstance(value, Cases) or not _has_form(exclusions.book, value):
        return False
    key = (value, out, inside)
    if key not in known:
        holding = True
        for outcome, part in zip(exclusions.book.rooms[value.room], value.parts):
            if part is None:
                holding = holding and out & exclusions.bits[outcome] > 0
            elif holding:
                later = out | exclusions.masks[outcome]
                holding = _close(exclusions, later, part, inside - 1, known)
        known[key] = holding
    return known[key]


def _has_form(book, value):
    if not is_room_number(book, value.room) or not isinstance(value.parts, tuple):
        return False
    return len(value.parts) == len(book.rooms[value.room])


def fixed(book, told=()):
    """The lots of outcomes that all settings with the told ones have, and that none has."""
    found = all_settings(book, told)
    if not found:
        raise Refused("none")
    outcomes = book.outcomes()
    sure = [outcome for outcome in outcomes if all([outcome in setting for setting in found])]
    out = [outcome for outcome in outcomes if not any([outcome in setting for setting in found])]
    return (tuple(sure), tuple(out))
