"""Settings that part sayings, and pictures made of them (points [68] and [69])."""

from roomlooks.basics import count_bits, is_ascending, is_number_within
from roomlooks.cases import check_cases, some_setting
from roomlooks.errors import InvalidNumber, Refused
from roomlooks.looks import follows
from roomlooks.rings import rings_of
from roomlooks.sayings import check_saying, is_saying, known_forms, known_implies, known_opposite, written
from roomlooks.settings import all_choices, all_settings, choices, holds, is_setting, setting_of

MOST_POINTS = 6
MOST_SETTINGS = 100


class Pictured:
    """A picture of a book."""

    def __init__(self, settings):
        self.settings = settings


class Unpictured:
    """Two sayings, the first of which does not imply the second, that no setting parts, and why."""

    def __init__(self, one, other, why):
        self.one = one
        self.other = other
        self.why = why


def setting_between(book, one, other):
    """The first setting in which one saying holds and the other does not, or why there is none."""
    check_saying(book, one)
    check_saying(book, other)
    room, lot = known_forms(book, one)[0]
    home, barred = known_forms(book, other)[0]
    for chosen in all_choices(book, ()):
        if chosen[room] in lot and chosen[home] not in barred:
            return setting_of(chosen)
    return tuple([_reason(book, pair) for pair in _pairs_between(book, one, other)])


def _pairs_between(book, one, other):
    """The pairs of outcomes one of which a setting has that parts two sayings."""
    return [(p, q) for p in one for q in known_opposite(book, other)]


def _reason(book, pair):
    return some_setting(book, pair) if follows(book, pair[0], pair[1]) else None


def check_between(book, one, other, value):
    """Whether any value is a setting that parts two sayings, or tells why there is none."""
    check_saying(book, one)
    check_saying(book, other)
    if is_setting(book, value):
        return holds(book, value, one) and not holds(book, value, other)
    return _are_reasons(book, one, other, value)


def _are_reasons(book, one, other, value):
    """Whether any value tells why no setting parts two sayings."""
    pairs = _pairs_between(book, one, other)
    if not isinstance(value, tuple) or len(value) != len(pairs):
        return False
    return all([_is_reason(book, pair, part) for pair, part in zip(pairs, value)])


def _is_reason(book, pair, value):
    if value is None:
        return not follows(book, pair[0], pair[1])
    return check_cases(book, pair, value)


def _open_pairs(book):
    """The pairs of outcomes, the second one not before the first, that do not exclude each other.

    Without rings of three, settings are a picture exactly if each such pair is in one of them:
    the two are an outcome twice, or unlike ones that are in no room together.
    """
    names = book.outcomes()
    return [(p, q) for p in names for q in names if p <= q and follows(book, p, q)]


def _pairs_in(setting):
    """The pairs of outcomes of a setting, the second one not before the first."""
    return [(p, q) for p in setting for q in setting if p <= q]


def pictured(book):
    """Some Pictured, or some Unpictured if the book has no picture."""
    threes = rings_of(book, 3)
    if threes:
        # The room of the second pair has the first two outcomes, which both exclude the third.
        (_, p), (room, r), (_, q) = threes[0]
        return _unpictured(book, written(book, room, tuple(sorted([p, r]))), q)
    missing = {pair: True for pair in _open_pairs(book)}
    found = []
    for setting in all_settings(book):
        new = [pair for pair in _pairs_in(setting) if pair in missing]
        if new:
            found.append(setting)
            missing = {pair: True for pair in missing if pair not in new}
    if not missing:
        return Pictured(tuple(found))
    p, q = min(list(missing))
    return _unpictured(book, (p,), q)


def _unpictured(book, one, outcome):
    """The Unpictured of a saying and the opposite of an outcome."""
    other = known_opposite(book, (outcome,))
    return Unpictured(one, other, setting_between(book, one, other))


def check_pictured(book, value):
    """Whether any value is a Pictured or an Unpictured of the book."""
    if isinstance(value, Pictured):
        return is_picture(book, value.settings)
    if not isinstance(value, Unpictured):
        return False
    if not is_saying(book, value.one) or not is_saying(book, value.other):
        return False
    if known_implies(book, value.one, value.other):
        return False
    return _are_reasons(book, value.one, value.other, value.why)


def _are_settings(book, value):
    return isinstance(value, tuple) and all([is_setting(book, item) for item in value])


def is_picture(book, settings):
    """Whether any value is a picture of the book."""
    if not _are_settings(book, settings) or rings_of(book, 3):
        return False
    if not is_ascending([choices(book, setting) for setting in settings]):
        return False
    shown = {pair: True for setting in settings for pair in _pairs_in(setting)}
    return all([pair in shown for pair in _open_pairs(book)])


def picture(book, settings, saying):
    """The places of those settings of a tuple in which a saying holds."""
    if not _are_settings(book, settings):
        raise Refused("setting")
    check_saying(book, saying)
    return tuple([at for at, setting in enumerate(settings) if holds(book, setting, saying)])


def fewest_points(book, *, most=4):
    """Some picture with as few settings as possible, or None if none has at most so many."""
    if not is_number_within(most, 0, MOST_POINTS):
        raise InvalidNumber("most")
    settings = all_settings(book)
    if len(settings) > MOST_SETTINGS:
        raise Refused("wide")
    if rings_of(book, 3):
        return None
    masks = _masks(settings, _open_pairs(book))
    for many in range(most + 1):
        places = _covering(masks, (1 << len(_open_pairs(book))) - 1, many)
        if places is not None:
            return tuple([settings[place] for place in sorted(places)])
    return None


def _masks(settings, pairs):
    """For each setting the bits of the pairs that it has; pairs that few settings have come first."""
    rows = [_pairs_in(setting) for setting in settings]
    ordered = sorted([(len([row for row in rows if pair in row]), pair) for pair in pairs])
    bits = {pair: 1 << at for at, (_, pair) in enumerate(ordered)}
    return [sum([bits[pair] for pair in row]) for row in rows]


def _covering(masks, left, many):
    """The places, as a list, of at most so many masks that have all bits left; None if there are none."""
    if not left:
        return []
    if max([0] + [count_bits(mask & left) for mask in masks]) * many < count_bits(left):
        return None
    for place, mask in enumerate(masks):
        # The lowest bit left is one that few masks have.
        if mask & left & -left:
            places = _covering(masks, left & ~mask, many - 1)
            if places is not None:
                return [place] + places
    return None
