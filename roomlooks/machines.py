"""Plans and runs of looks, and what stays sure in them (points [74] and [75])."""

from roomlooks.basics import check_outcome, is_look, is_number_within, is_room_number
from roomlooks.errors import InvalidLook, InvalidNumber
from roomlooks.looks import follows
from roomlooks.sayings import check_saying, known_implies

MOST_LOOKS = 60


def _check_after(book, after):
    if after is not None:
        check_outcome(book, after)


def _check_length(value):
    if not isinstance(value, tuple) or len(value) > MOST_LOOKS:
        raise InvalidLook(-1)


def _check_plan(book, plan):
    """Raise InvalidLook unless any value is a tuple of at most 60 numbers of rooms."""
    _check_length(plan)
    for at, room in enumerate(plan):
        if not is_room_number(book, room):
            raise InvalidLook(at)


def _may_follow(book, before, outcome):
    """Whether an outcome can follow what was before; None if nothing was."""
    return before is None or follows(book, before, outcome)


def check_run(book, run, *, after=None):
    """Raise InvalidLook unless any value is a run, after an outcome unless that is None."""
    _check_after(book, after)
    _check_length(run)
    before = after
    for at, look in enumerate(run):
        if not is_look(book, look) or not _may_follow(book, before, look[1]):
            raise InvalidLook(at)
        before = look[1]


def _counts(book, plan, ends):
    """A list with, for each place of a plan, a dict from each outcome of its room to a number.

    The number tells how many runs of the rest of the plan begin with the outcome and end with
    one of those for which `ends`, a dict for the last room, has 1; for the others it has 0.
    """
    counts = []
    later = ends
    for room in plan[::-1]:
        # In its own room an outcome is followed by itself alone, so the last room keeps `ends`.
        later = {outcome: _going_on(book, outcome, later) for outcome in book.rooms[room]}
        counts = [later] + counts
    return counts


def _going_on(book, before, table):
    """The sum of the numbers of the outcomes that can follow what was before."""
    return sum([table[outcome] for outcome in table if _may_follow(book, before, outcome)])


def _all_counts(book, plan):
    """The numbers of all runs of a plan, as `_counts` tells them."""
    ends = {outcome: 1 for outcome in book.rooms[plan[-1]]} if plan else {}
    return _counts(book, plan, ends)


def _total(book, counts, after):
    """How many runs are counted; the empty plan has the empty run."""
    return _going_on(book, after, counts[0]) if counts else 1


def count_runs(book, plan, *, after=None):
    """The number of runs of a plan, after an outcome unless that is None."""
    _check_after(book, after)
    _check_plan(book, plan)
    return _total(book, _all_counts(book, plan), after)


def run_at(book, plan, number, *, after=None):
    """The run of a plan with an index in ascending order, for any value as the index."""
    _check_after(book, after)
    _check_plan(book, plan)
    counts = _all_counts(book, plan)
    if not is_number_within(number, 0, _total(book, counts, after) - 1):
        raise InvalidNumber("number")
    return _counted_run(book, plan, counts, number, after)


def _counted_run(book, plan, counts, number, after):
    """The run with an index among those that are counted."""
    run, before, left = (), after, number
    for room, table in zip(plan, counts):
        outcomes = [outcome for outcome in table if _may_follow(book, before, outcome)]
        while left >= table[outcomes[0]]:
            left = left - table[outcomes[0]]
            outcomes = outcomes[1:]
        before = outcomes[0]
        run = run + ((room, before),)
    return run


def place_of_run(book, run, *, after=None):
    """The index of a run among those of its plan, after an outcome unless that is None."""
    check_run(book, run, after=after)
    counts = _all_counts(book, tuple([room for room, _ in run]))
    place, before = 0, after
    for look, table in zip(run, counts):
        earlier = {outcome: table[outcome] for outcome in table if outcome < look[1]}
        place = place + _going_on(book, before, earlier)
        before = look[1]
    return place


def last_outcomes(book, plan, *, after=None):
    """The lot of the outcomes with which the runs of a plan end."""
    _check_after(book, after)
    _check_plan(book, plan)
    befores = (after,)
    for room in plan:
        befores = tuple([outcome for outcome in book.rooms[room] if _follows_any(book, befores, outcome)])
    return () if befores == (None,) else befores


def _follows_any(book, befores, outcome):
    return any([_may_follow(book, before, outcome) for before in befores])


def lost_run(book, outcome, plan, saying):
    """The first run of a plan after an outcome at whose end a saying is not sure, or None."""
    check_outcome(book, outcome)
    _check_plan(book, plan)
    check_saying(book, saying)
    if not plan:
        return None if known_implies(book, (outcome,), saying) else ()
    ends = {last: 0 if known_implies(book, (last,), saying) else 1 for last in book.rooms[plan[-1]]}
    counts = _counts(book, plan, ends)
    return _counted_run(book, plan, counts, 0, outcome) if _total(book, counts, outcome) else None
