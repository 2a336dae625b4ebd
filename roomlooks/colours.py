"""Colours: settings of which just one has each outcome, or why there are none (point [71])."""

from roomlooks.errors import Refused
from roomlooks.settings import Exclusions, is_setting


class Colours:
    """Settings of which just one has each outcome."""

    def __init__(self, settings):
        self.settings = settings


class Stuck:
    """An outcome without a colour, and for each colour why it cannot have it."""

    def __init__(self, outcome, parts):
        self.outcome = outcome
        self.parts = parts


class Paint:
    """Which outcomes have which colour, and which outcomes each colour is not open to, in bits."""

    def __init__(self, exclusions, chosen, barred):
        self.exclusions = exclusions
        self.chosen = chosen
        self.barred = barred

    def with_colour(self, outcome, colour):
        """The paint in which one more outcome has a colour."""
        chosen = {name: self.chosen[name] for name in self.chosen}
        chosen[outcome] = colour
        barred = list(self.barred)
        barred[colour] = barred[colour] | self.exclusions.masks[outcome]
        return Paint(self.exclusions, chosen, barred)

    def is_barred(self, outcome, colour):
        """Whether an outcome with a colour excludes this outcome."""
        return self.barred[colour] & self.exclusions.bits[outcome] > 0


def _first_paint(book):
    """The outcomes of room 0 with their places as colours; Refused if rooms have unlike sizes."""
    sizes = sorted(set([len(room) for room in book.rooms]))
    if len(sizes) > 1:
        raise Refused("sizes")
    paint = Paint(Exclusions(book), {}, [0] * sizes[0])
    for colour, outcome in enumerate(book.rooms[0]):
        paint = paint.with_colour(outcome, colour)
    return paint


def colours(book):
    """Some Colours, or some Stuck if there are none."""
    found = _painted(book, _first_paint(book))
    if isinstance(found, Stuck):
        return found
    many = len(found.barred)
    return Colours(tuple([_with_colour(book, found.chosen, colour) for colour in range(many)]))


def _with_colour(book, chosen, colour):
    return tuple([outcome for outcome in book.outcomes() if chosen[outcome] == colour])


def _painted(book, paint):
    """Some paint of all outcomes that goes on from this one, or some Stuck."""
    left = [outcome for outcome in book.outcomes() if outcome not in paint.chosen]
    if not left:
        return paint
    # An outcome with few colours left, and then one that excludes many others, ends soonest.
    outcome = min([_urgency(paint, left, name) for name in left])[2]
    parts = []
    for colour in range(len(paint.barred)):
        part = None
        if not paint.is_barred(outcome, colour):
            part = _painted(book, paint.with_colour(outcome, colour))
            if isinstance(part, Paint):
                return part
        parts.append(part)
    return Stuck(outcome, tuple(parts))


def _urgency(paint, left, outcome):
    open_ones = [colour for colour in range(len(paint.barred)) if not paint.is_barred(outcome, colour)]
    mask = paint.exclusions.masks[outcome]
    others = [name for name in left if paint.exclusions.bits[name] & mask]
    return (len(open_ones), -len(others), outcome)


def check_colours(book, value):
    """Whether any value is a Colours or a Stuck of the book."""
    paint = _first_paint(book)
    if isinstance(value, Colours):
        return isinstance(value.settings, tuple) and _are_colours(book, value.settings)
    return _is_stuck(paint, value, {})


def _are_colours(book, settings):
    if not all([is_setting(book, setting) for setting in settings]):
        return False
    return sorted([outcome for setting in settings for outcome in setting]) == list(book.outcomes())


def _is_stuck(paint, value, known):
    """Whether any value is a Stuck for a paint; `known` keeps what is found."""
    if not isinstance(value, Stuck) or not _has_form(paint, value):
        return False
    # One Stuck may stand at many places; what is barred and painted is all that matters to it.
    key = (value, tuple(paint.barred), tuple(sorted(paint.chosen)))
    if key not in known:
        holding = True
        for colour, part in enumerate(value.parts):
            if part is None:
                holding = holding and paint.is_barred(value.outcome, colour)
            elif holding:
                holding = _is_stuck(paint.with_colour(value.outcome, colour), part, known)
        known[key] = holding
    return known[key]


def _has_form(paint, value):
    if not isinstance(value.outcome, str) or value.outcome in paint.chosen:
        return False
    if value.outcome not in paint.exclusions.bits or not isinstance(value.parts, tuple):
        return False
    return len(value.parts) == len(paint.barred)
