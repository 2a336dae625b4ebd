"""Settings: lots with just one outcome of each room (points [64] and [65])."""

from roomlooks.basics import is_lot_of, is_number_within, rivals
from roomlooks.errors import InvalidLook, InvalidNumber, Refused
from roomlooks.sayings import check_saying, known_forms

LAST_PLACE = 1000000


def is_setting(book, value):
    """Whether any value is a lot of outcomes that has just one outcome of each room."""
    if not is_lot_of(value, book.outcomes()):
        return False
    return all([len(_chosen(room, value)) == 1 for room in book.rooms])


def _chosen(room, setting):
    return [outcome for outcome in room if outcome in setting]


def _check_setting(book, value):
    if not is_setting(book, value):
        raise Refused("setting")


def choices(book, setting):
    """The outcome of each room in a setting, by number."""
    _check_setting(book, setting)
    return tuple([_chosen(room, setting)[0] for room in book.rooms])


def holds(book, setting, saying):
    """Whether a saying holds in a setting."""
    _check_setting(book, setting)
    check_saying(book, saying)
    return any([outcome in setting for _, lot in known_forms(book, saying) for outcome in lot])


def check_told(book, told):
    """Raise InvalidLook unless any value is a tuple of outcomes of the book."""
    if not isinstance(told, tuple):
        raise InvalidLook(-1)
    for at, item in enumerate(told):
        if not book.rooms_of(item):
            raise InvalidLook(at)


class Exclusions:
    """Which outcomes of a book exclude which, told in bits: each outcome has one of its own."""

    def __init__(self, book):
        self.book = book
        self.bits = {outcome: 1 << at for at, outcome in enumerate(book.outcomes())}
        table = rivals(book)
        self.masks = {
            outcome: sum([self.bits[other] for other in table[outcome]]) for outcome in table
        }

    def out_of(self, row):
        """The bits of the outcomes that the outcomes of a row exclude."""
        out = 0
        for outcome in row:
            out = out | self.masks[outcome]
        return out

    def left_in(self, room, out):
        """The outcomes of a room, by number, whose bits are not out."""
        return [outcome for outcome in self.book.rooms[room] if not out & self.bits[outcome]]


def all_choices(book, told):
    """The choices of the settings with all told outcomes, in order, as a list."""
    exclusions = Exclusions(book)
    rows = [((), exclusions.out_of(told))]
    for room in range(len(book.rooms)):
        rows = [
            (chosen + (outcome,), out | exclusions.masks[outcome])
            for chosen, out in rows
            for outcome in exclusions.left_in(room, out)
        ]
    return [chosen for chosen, _ in rows]


def setting_of(chosen):
    """The setting with these choices."""
    return tuple(sorted(set(chosen)))


def count_settings(book, told=()):
    """How many settings have all told outcomes."""
    check_told(book, told)
    return len(all_choices(book, told))


def all_settings(book, told=()):
    """The settings that have all told outcomes, in order."""
    check_told(book, told)
    return tuple([setting_of(chosen) for chosen in all_choices(book, told)])


def setting_at(book, place, told=()):
    """The setting with a number among those that have all told outcomes, or None."""
    if not is_number_within(place, 0, LAST_PLACE):
        raise InvalidNumber("place")
    check_told(book, told)
    rows = all_choices(book, told)
    return setting_of(rows[place]) if place < len(rows) else None


def place_of_setting(book, setting):
    """The number of a setting among all settings."""
    return all_choices(book, ()).index(choices(book, setting))
