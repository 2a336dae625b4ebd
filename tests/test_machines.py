"""Plans, runs and what stays sure: the opening of chapter 12, points [74] and [75]."""

import unittest
from itertools import product

from common import Case, odd_values
from oracle import Model, rings
from samples import (BOW, FANO, FIVE, GRID, HEXAGON, K5, LARGE, LINES, MIDDLE, ONE, PENTAGON, SMALL, SQUARE, TAILED, TORN,
                     TRIANGLE, TWO, apart, book, made_books, row_of, star)
from roomlooks.errors import InvalidLook, InvalidNumber, InvalidSaying, Refused
from roomlooks.machines import check_run, count_runs, last_outcomes, lost_run, place_of_run, run_at

BOOKS = SMALL + [PENTAGON, GRID, TORN, K5, FANO] + made_books(42, 10, 6)
PLANS = [(), (0,), (1,), (0, 0), (0, 1), (1, 0), (2, 0, 1), (0, 1, 2), (1, 3, 1), (0, 2, 0, 3), (2, 2, 2)]


def follows(each, one, other):
    return one is None or one == other or not any([one in room and other in room for room in each.rooms])


def runs_of(each, plan, after=None):
    """All runs of a plan, ascending."""
    found = []
    for outcomes in product(*[each.rooms[room] for room in plan]):
        before = (after,) + outcomes
        if all([follows(each, before[k], before[k + 1]) for k in range(len(outcomes))]):
            found.append(tuple(zip(plan, outcomes)))
    return found


def plans_of(each):
    return [plan for plan in PLANS if all([room < len(each.rooms) for room in plan])]


def afters(each):
    names = each.outcomes()
    return [None] + [names[0], names[-1], names[len(names) // 2]]


class RunTests(Case):
    def test_runs(self):
        for each in BOOKS:
            for plan in plans_of(each):
                for after in afters(each):
                    found = runs_of(each, plan, after)
                    self.assertEqual(count_runs(each, plan, after=after), len(found))
                    for number in range(0, len(found), 1 + len(found) // 12):
                        run = found[number]
                        self.assertEqual(run_at(each, plan, number, after=after), run)
                        self.assertEqual(place_of_run(each, run, after=after), number)
                        self.assertIsNone(check_run(each, run, after=after))
                    with self.assertRaises(InvalidNumber):
                        run_at(each, plan, len(found), after=after)

    def test_last_outcomes(self):
        for each in BOOKS:
            for plan in plans_of(each):
                for after in afters(each):
                    ends = set([run[-1][1] for run in runs_of(each, plan, after) if run])
                    wanted = tuple(sorted(ends)) if plan else (() if after is None else (after,))
                    self.assertEqual(last_outcomes(each, plan, after=after), wanted)
                    if plan and after is None and not rings(each.rooms, 3):
                        self.assertEqual(wanted, each.rooms[plan[-1]])

    def test_in_every_way(self):
        self.gives(None, check_run, BOW, ())
        self.gives(None, check_run, BOW, (), after="a")
        self.gives(None, check_run, BOW, ((0, "a"), (1, "d"), (0, "b")))
        self.gives(None, check_run, BOW, ((1, "d"), (0, "a")), after="a")
        self.gives(None, check_run, BOW, ((0, "a"), (0, "a")), after=None)
        self.fails(InvalidLook(0), check_run, BOW, ((0, "a"),), after="b")
        self.fails(InvalidLook(1), check_run, BOW, ((0, "a"), (1, "c")), after="d")
        self.gives(5, count_runs, BOW, (0, 1))
        self.gives(2, count_runs, BOW, (1,), after="a")
        self.gives(2, count_runs, BOW, (0, 1), after="a")
        self.gives(1, count_runs, BOW, ())
        self.gives(1, count_runs, BOW, (), after="c")
        self.gives((), run_at, BOW, (), 0)
        self.gives((), run_at, BOW, (), 0, after="c")
        self.gives(((0, "b"), (1, "d")), run_at, BOW, (0, 1), 2)
        self.gives(((0, "a"), (1, "e")), run_at, BOW, (0, 1), 1, after="a")
        self.gives(2, place_of_run, BOW, ((0, "b"), (1, "d")))
        self.gives(1, place_of_run, BOW, ((0, "a"), (1, "e")), after="d")
        self.gives(0, place_of_run, BOW, ())
        self.gives(("d", "e"), last_outcomes, BOW, (0, 1), after="a")
        self.gives(("c", "d", "e"), last_outcomes, BOW, (0, 1))
        self.gives((), last_outcomes, BOW, ())
        self.gives(("b",), last_outcomes, BOW, (), after="b")
        self.gives(("b",), last_outcomes, BOW, (0,), after="b")

    def test_no_run(self):
        # After "x" nothing in the first room can come, as each of its outcomes is in a room with "x".
        each = book("a b c\na x d\nb x e\nc x f")
        self.gives(0, count_runs, each, (0,), after="x")
        self.gives(0, count_runs, each, (0, 1, 2), after="x")
        self.gives((), last_outcomes, each, (0,), after="x")
        self.gives((), last_outcomes, each, (0, 3), after="x")
        self.fails(InvalidNumber("number"), run_at, each, (0,), 0, after="x")
        self.gives(None, lost_run, each, "x", (0, 1), ())
        self.fails(InvalidLook(1), check_run, each, ((1, "x"), (0, "a")))

    def test_long_plans(self):
        for each in [ONE, BOW, TRIANGLE, LINES, LARGE[0], star(10), FIVE]:
            plan = tuple([(7 * k) % len(each.rooms) for k in range(60)])
            many = count_runs(each, plan)
            for number in [0, many - 1, many // 2, many // 3]:
                run = run_at(each, plan, number)
                self.assertIsNone(check_run(each, run))
                self.assertEqual(tuple([room for room, _ in run]), plan)
                self.assertEqual(place_of_run(each, run), number)
            self.gives(many, count_runs, each, plan)
            self.assertEqual(last_outcomes(each, plan), tuple(sorted(set(last_outcomes(each, plan)))))
        two = apart(2)
        self.gives(3 ** 60, count_runs, two, (0, 1) * 30)
        self.gives(((0, "c"), (1, "f")) * 30, run_at, two, (0, 1) * 30, 3 ** 60 - 1)
        self.gives(3 ** 60 - 1, place_of_run, two, ((0, "c"), (1, "f")) * 30)
        self.fails(InvalidNumber("number"), run_at, two, (0, 1) * 30, 3 ** 60)

    def test_wrong_runs(self):
        for value in odd_values():
            if not isinstance(value, tuple):
                self.fails(InvalidLook(-1), check_run, BOW, value)
                self.fails(InvalidLook(-1), place_of_run, BOW, value, after="a")
            self.fails(InvalidLook(1), check_run, BOW, ((0, "a"), value))
            self.fails(InvalidLook(0), place_of_run, BOW, ((value, "a"), None))
            self.fails(InvalidLook(0), place_of_run, BOW, ((0, value), None))
        for item in [(0, "d"), (1, "a"), (2, "a"), (-1, "a"), (0, "z"), (0,), (0, "a", "b"), [0, "a"], ("a", 0), (False, "a")]:
            self.fails(InvalidLook(2), check_run, BOW, ((1, "d"), (1, "d"), item))
        self.fails(InvalidLook(1), check_run, BOW, ((0, "a"), (0, "b")))
        self.fails(InvalidLook(1), place_of_run, BOW, ((0, "a"), (1, "c"), (9, "a")))
        self.gives(None, check_run, BOW, ((0, "a"),) * 60)
        self.fails(InvalidLook(-1), check_run, BOW, ((0, "a"),) * 61)
        self.fails(InvalidLook(-1), place_of_run, BOW, ((0, "z"),) * 61)

    def test_wrong_plans(self):
        for function, more in [(count_runs, ()), (run_at, (None,)), (last_outcomes, ())]:
            for value in odd_values():
                if not isinstance(value, tuple):
                    self.fails(InvalidLook(-1), function, BOW, value, *more)
                self.fails(InvalidLook(1), function, BOW, (0, value, 9), *more, after="a")
            for value in [2, -1, True, "0", None]:
                self.fails(InvalidLook(0), function, BOW, (value,), *more)
            self.fails(InvalidLook(-1), function, BOW, (0,) * 61, *more)
        self.gives(3, count_runs, BOW, (0,) * 60)

    def test_wrong_after_comes_first(self):
        for value in odd_values() + ["z", ("a",)]:
            if value is None:
                continue
            self.fails(Refused("outcome"), check_run, BOW, None, after=value)
            self.fails(Refused("outcome"), count_runs, BOW, (9,), after=value)
            self.fails(Refused("outcome"), run_at, BOW, None, -1, after=value)
            self.fails(Refused("outcome"), place_of_run, BOW, ((0, "a"),), after=value)
            self.fails(Refused("outcome"), last_outcomes, BOW, (), after=value)

    def test_wrong_numbers(self):
        for value in odd_values() + [5, "0", (0,)]:
            self.fails(InvalidNumber("number"), run_at, BOW, (0, 1), value)
            self.fails(InvalidNumber("number"), run_at, BOW, (), value, after="a")
        self.fails(InvalidNumber("number"), run_at, BOW, (), 1)


class LostTests(Case):
    def test_lost_runs(self):
        for each in BOOKS:
            model = Model(each.rooms)
            sayings = model.sayings[::1 + len(model.sayings) // 12] + [model.all]
            for plan in plans_of(each):
                for outcome in afters(each)[1:]:
                    found = runs_of(each, plan, outcome)
                    for saying in sayings:
                        ends = [run for run in found if not model.implies(((run[-1][1] if run else outcome),), saying)]
                        self.assertEqual(lost_run(each, outcome, plan, saying), ends[0] if ends else None)

    def test_what_stays_sure(self):
        for each in [BOW, TWO, PENTAGON, GRID, SQUARE, TAILED, star(3), row_of(3)]:
            model, with_three = Model(each.rooms), rings(each.rooms, 3)
            for outcome in each.outcomes():
                for saying in [saying for saying in model.sayings if model.implies((outcome,), saying)]:
                    for room in range(len(each.rooms)):
                        stays = outcome in each.rooms[room] or room in model.lots[saying]
                        found = lost_run(each, outcome, (room,), saying)
                        if stays or saying == model.all:
                            self.assertIsNone(found)
                        elif not with_three:
                            self.assertIsNotNone(found)

    def test_in_every_way(self):
        self.gives(None, lost_run, BOW, "a", (), ("a", "b"))
        self.gives((), lost_run, BOW, "a", (), ("c",))
        self.gives(((1, "d"), (0, "b")), lost_run, BOW, "a", (1, 0), ("a",))
        self.gives(None, lost_run, BOW, "a", (0, 0, 0), ("a",))
        self.gives(None, lost_run, BOW, "a", (0, 1), ("a", "b", "c"))
        self.gives(((0, "a"), (1, "d")), lost_run, BOW, "a", (0, 1), ("a", "c"))
        for each in [HEXAGON, LINES, LARGE[0]] + MIDDLE[:3]:
            plan = tuple([(3 * k) % len(each.rooms) for k in range(60)])
            found = lost_run(each, "a", plan, ("a",))
            self.gives(found, lost_run, each, "a", plan, ("a",))
            if found is not None:
                self.assertIsNone(check_run(each, found, after="a"))
                self.assertNotEqual(found[-1][1], "a")

    def test_wrong_values(self):
        for value in odd_values():
            self.fails(Refused("outcome"), lost_run, BOW, value, None, None)
            if not isinstance(value, tuple):
                self.fails(InvalidLook(-1), lost_run, BOW, "a", value, None)
                self.fails(InvalidSaying(-1), lost_run, BOW, "a", (0,), value)
            self.fails(InvalidLook(0), lost_run, BOW, "a", (value,), ("z",))
            self.fails(InvalidSaying(0), lost_run, BOW, "a", (), (value,))
        self.fails(InvalidLook(-1), lost_run, BOW, "a", (0,) * 61, ("z",))
        self.fails(InvalidSaying(2), lost_run, BOW, "a", (0,), ("d", "e"))


if __name__ == "__main__":
    unittest.main()
