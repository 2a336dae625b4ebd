"""Shortest runs after which a saying is sure (point [78])."""

from roomlooks.basics import check_outcome, is_lot_of, is_number, steps_from, way_down
from roomlooks.errors import InvalidLook
from roomlooks.looks import follows
from roomlooks.machines import check_run
from roomlooks.sayings import check_saying, known_implies


class Reached:
    """A shortest run, and levels that show that none is shorter."""

    def __init__(self, run, levels):
        self.run = run
        self.levels = levels


class Unreached:
    """Outcomes that nothing else can follow, after none of which the saying is sure."""

    def __init__(self, lot):
        self.lot = lot


def reach(book, outcome, saying):
    """Some Reached for a saying after an outcome, or some Unreached."""
    check_outcome(book, outcome)
    check_saying(book, saying)
    near = {name: [other for other in book.outcomes() if follows(book, name, other)] for name in book.outcomes()}
    steps = steps_from(near, [outcome])
    # They are found level by level, so the first one is as near as can be.
    ends = [name for name in steps if known_implies(book, (name,), saying)]
    if not ends:
        return Unreached(tuple(sorted(steps)))
    way = way_down(near, steps, ends[0])[::-1]
    run = tuple([(book.rooms_of(name)[0], name) for name in way[1:]])
    return Reached(run, tuple([steps.get(name, len(run)) for name in book.outcomes()]))


def check_reach(book, outcome, saying, value):
    """Raise InvalidLook unless any value is a Reached or an Unreached for a saying after an outcome."""
    check_outcome(book, outcome)
    check_saying(book, saying)
    if isinstance(value, Reached):
        check_run(book, value.run, after=outcome)
        if not _is_shortest(book, outcome, saying, value):
            raise InvalidLook(len(value.run))
    elif not isinstance(value, Unreached):
        raise InvalidLook(-1)
    elif not _is_closed(book, outcome, saying, value.lot):
        raise InvalidLook(0)


def _is_shortest(book, outcome, saying, value):
    """Whether the run of a Reached ends where the saying is sure, and its levels are as they must be."""
    outcomes = book.outcomes()
    last = value.run[-1][1] if value.run else outcome
    if not known_implies(book, (last,), saying) or not isinstance(value.levels, tuple):
        return False
    if len(value.levels) != len(outcomes) or not all([is_number(level) for level in value.levels]):
        return False
    table = dict(zip(outcomes, value.levels))
    for name in outcomes:
        if known_implies(book, (name,), saying) and table[name] < len(value.run):
            return False
        if any([follows(book, name, other) and table[other] > table[name] + 1 for other in outcomes]):
            return False
    return table[outcome] == 0


def _is_closed(book, outcome, saying, lot):
    """Whether any value is a lot with an outcome and all that can follow, and without the saying sure."""
    if not is_lot_of(lot, book.outcomes()) or outcome not in lot:
        return False
    others = [name for name in book.outcomes() if name not in lot]
    if any([follows(book, name, other) for name in lot for other in others]):
        return False
    return not any([known_implies(book, (name,), saying) for name in lot])


def looks_needed(book, outcome, saying):
    """The length of a shortest run after an outcome that makes a saying sure, or None."""
    found = reach(book, outcome, saying)
    return len(found.run) if isinstance(found, Reached) else None
