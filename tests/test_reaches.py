"""Shortest runs: point [78]."""

import random
import unittest

from common import Case, Thing, odd_values
from oracle import Model, rings
from samples import (BOW, FANO, FIVE, FIVES, GRID, K5, LARGE, LINES, MIDDLE, ONE, PIECES, SMALL, SQUARE, TAILED, TORN, TRIANGLE, TWO,
                     book, made_books, star)
from roomlooks.errors import InvalidLook, InvalidSaying, Refused
from roomlooks.looks import state_after
from roomlooks.reaches import Reached, Unreached, check_reach, looks_needed, reach
from roomlooks.texts import read_book

BENT = book("a b c\na d e\nb f g")
BOOKS = SMALL + MIDDLE + [BENT] + made_books(63, 20, 6)


def followers(each, p):
    return [q for q in each.outcomes() if q == p or each.room_of_two(p, q) is None]


def steps(each, outcome):
    """The least numbers of looks from an outcome to all that can be reached."""
    found, front = {outcome: 0}, [outcome]
    while front:
        front = [q for p in front for q in followers(each, p) if q not in found and not found.update({q: found[p] + 1})]
    return found


def is_sure(model, outcome, saying):
    return model.implies((outcome,), saying)


def is_reached(each, model, outcome, saying, value):
    """Whether a Reached of the right kinds has what point [78] asks for; the run is one after the outcome."""
    last = value.run[-1][1] if value.run else outcome
    table = dict(zip(each.outcomes(), value.levels))
    if len(value.levels) != len(each.outcomes()) or table[outcome] != 0 or not is_sure(model, last, saying):
        return False
    if any([table[q] > table[p] + 1 for p in each.outcomes() for q in followers(each, p)]):
        return False
    return all([table[p] >= len(value.run) for p in each.outcomes() if is_sure(model, p, saying)])


def is_run(each, outcome, run):
    for room, name in run:
        if name not in each.rooms[room] or name not in followers(each, outcome):
            return False
        outcome = name
    return True


class ReachTests(Case):
    def test_classes(self):
        self.assertEqual(vars(Reached(1, 2)), {"run": 1, "levels": 2})
        self.assertEqual(vars(Reached(run=None, levels=())), {"run": None, "levels": ()})
        self.assertEqual(vars(Unreached(1)), {"lot": 1})
        self.assertEqual(vars(Unreached(lot=None)), {"lot": None})

    def test_one_of_both(self):
        kinds, lengths = [], []
        for each in BOOKS + [LINES, FIVES]:
            model = Model(each.rooms)
            for outcome in each.outcomes()[::2]:
                least = steps(each, outcome)
                for saying in model.sayings[::1 + len(model.sayings) // 20]:
                    found = reach(each, outcome, saying)
                    ends = [least[name] for name in least if is_sure(model, name, saying)]
                    kinds.append(type(found))
                    if ends:
                        lengths.append(min(ends))
                        self.assertEqual(len(found.run), min(ends))
                        self.assertTrue(is_run(each, outcome, found.run))
                        self.assertTrue(is_reached(each, model, outcome, saying, found))
                        self.assertEqual(looks_needed(each, outcome, saying), min(ends))
                    else:
                        self.assertIsInstance(found, Unreached)
                        self.assertEqual(found.lot, tuple(sorted(found.lot)))
                        self.assertIn(outcome, found.lot)
                        self.assertTrue(all([q in found.lot for p in found.lot for q in followers(each, p)]))
                        self.assertFalse(any([is_sure(model, name, saying) for name in found.lot]))
                        self.assertIsNone(looks_needed(each, outcome, saying))
                    self.assertIsNone(check_reach(each, outcome, saying, found))
        self.assertGreater(kinds.count(Unreached), 50)
        self.assertEqual(set(lengths), {0, 1, 2, 3})

    def test_without_rings_of_three(self):
        for each in BOOKS:
            if rings(each.rooms, 3):
                continue
            model = Model(each.rooms)
            for outcome in each.outcomes():
                for saying in model.sayings:
                    state, wanted = state_after(each, outcome, saying), 2
                    if state == "sure":
                        wanted = 0
                    elif state == "open":
                        wanted = 1
                    elif saying == () or all([outcome in room for room in each.rooms]):
                        wanted = None
                    elif len(saying) == 1:
                        name = saying[0]
                        if all([name in room for room in each.rooms]):
                            wanted = None
                        elif all([name in room or outcome in room for room in each.rooms]):
                            wanted = 3
                    self.assertEqual(looks_needed(each, outcome, saying), wanted, (each.rooms, outcome, saying))

    def test_example(self):
        each = read_book("a b c\na d e\nb f g")
        self.assertEqual(looks_needed(each, "a", ("b",)), 3)

    def test_in_every_way(self):
        for each, outcome, saying in [(BENT, "a", ("b",)), (BOW, "c", ("a",)), (BOW, "a", ("d",)), (TWO, "a", ("b",)), (ONE, "a", ("b",)),
                                      (FANO, "a", ("c",)), (TORN, "x", ("y",)), (K5, "a", ()), (PIECES, "a", ("a", "b", "c"))]:
            self.gives(reach(each, outcome, saying), reach, each, outcome, saying)
            self.gives(looks_needed(each, outcome, saying), looks_needed, each, outcome, saying)
            self.gives(None, check_reach, each, outcome, saying, reach(each, outcome, saying))
        self.gives(Reached((), (0, 0, 0)), reach, ONE, "a", ("a", "b"))
        self.gives(Unreached(("a",)), reach, ONE, "a", ("b",))
        self.gives(Unreached(("c",)), reach, BOW, "c", ("a",))

    def test_no_look_in_a_room(self):
        # In a plane any two outcomes are in a room together, so nothing can follow but the outcome itself.
        for outcome in FANO.outcomes():
            for other in FANO.outcomes():
                self.assertEqual(looks_needed(FANO, outcome, (other,)), 0 if outcome == other else None)
        self.gives(3, looks_needed, TRIANGLE, "a", ("e",))
        self.gives(1, looks_needed, TRIANGLE, "a", ("d",))


class CheckTests(Case):
    def test_runs_of_every_length(self):
        # Not only the run that is found: each shortest one passes, and no longer one.
        chance = random.Random(2)
        for each in [BENT, BOW, TWO, SQUARE, TAILED]:
            model = Model(each.rooms)
            for outcome in each.outcomes()[::2]:
                least = steps(each, outcome)
                for saying in model.sayings[::4]:
                    for _ in range(12):
                        run, last = (), outcome
                        for _ in range(chance.randint(0, 3)):
                            last = chance.choice(followers(each, last))
                            run += ((chance.choice(each.rooms_of(last)), last),)
                        levels = tuple([least.get(name, len(run)) for name in each.outcomes()])
                        value = Reached(run, levels)
                        wanted = is_reached(each, model, outcome, saying, value)
                        if wanted:
                            self.gives(None, check_reach, each, outcome, saying, value)
                        else:
                            self.fails(InvalidLook(len(run)), check_reach, each, outcome, saying, value)

    def test_spoilt_levels(self):
        checked = 0
        for each, outcome, saying in [(BENT, "a", ("b",)), (BOW, "a", ("e",)), (TWO, "a", ("b",)), (ONE, "a", ("a",)), (FANO, "a", ("a",))]:
            good, model = reach(each, outcome, saying), Model(each.rooms)
            for at, level in enumerate(good.levels):
                for other in [level - 1, level + 1, level + 5, 0, 10 ** 20]:
                    value = Reached(good.run, good.levels[:at] + (other,) + good.levels[at + 1:])
                    checked += 1
                    if other >= 0 and is_reached(each, model, outcome, saying, value):
                        self.gives(None, check_reach, each, outcome, saying, value)
                    else:
                        self.fails(InvalidLook(len(good.run)), check_reach, each, outcome, saying, value)
            for levels in [good.levels[1:], good.levels + (0,), list(good.levels), None, (), "abc"]:
                self.fails(InvalidLook(len(good.run)), check_reach, each, outcome, saying, Reached(good.run, levels))
        self.assertGreater(checked, 100)

    def test_spoilt_runs(self):
        good = reach(BENT, "a", ("b",))
        self.assertEqual(len(good.run), 3)
        for at in range(3):
            for look in [(0, "z"), (9, "a"), (True, "a"), ("a", 0), None, list(good.run[at]), good.run[at] + (0,)]:
                run = good.run[:at] + (look,) + good.run[at + 1:]
                self.fails(InvalidLook(at), check_reach, BENT, "a", ("b",), Reached(run, good.levels))
        self.fails(InvalidLook(0), check_reach, BENT, "a", ("b",), Reached(((0, "b"),), good.levels))
        self.fails(InvalidLook(2), check_reach, BENT, "a", ("b",), Reached(good.run[:2], good.levels))
        longer = good.run + (good.run[-1],)
        self.fails(InvalidLook(4), check_reach, BENT, "a", ("b",), Reached(longer, good.levels))
        for run in [None, list(good.run), (good.run[0],) * 61, "run", 3]:
            self.fails(InvalidLook(-1), check_reach, BENT, "a", ("b",), Reached(run, good.levels))
        self.fails(InvalidLook(60), check_reach, BENT, "a", ("a",), Reached(((0, "a"),) * 60, (0,) * 7))

    def test_spoilt_lots(self):
        good = reach(TAILED, "c", ())
        self.gives(None, check_reach, TAILED, "c", (), good)
        for lot in [good.lot[1:], good.lot[:-1], list(good.lot), None, (), good.lot + ("z",), good.lot[::-1], good.lot + good.lot[-1:]]:
            self.fails(InvalidLook(0), check_reach, TAILED, "c", (), Unreached(lot))
        # All outcomes are a lot that nothing else can follow; after one of them a saying but none is sure.
        self.gives(None, check_reach, TAILED, "c", (), Unreached(TAILED.outcomes()))
        self.fails(InvalidLook(0), check_reach, TAILED, "c", ("c",), Unreached(TAILED.outcomes()))
        self.fails(InvalidLook(0), check_reach, BOW, "a", ("a",), Unreached(("a", "d", "e")))
        self.gives(None, check_reach, ONE, "a", ("b",), Unreached(("a",)))
        self.gives(None, check_reach, ONE, "a", ("b",), Unreached(("a", "c")))
        self.fails(InvalidLook(0), check_reach, ONE, "a", ("b",), Unreached(("c",)))

    def test_any_value(self):
        for value in odd_values() + [Thing(run=(), levels=(0,) * 5), Thing(lot=("a",)), ()]:
            self.fails(InvalidLook(-1), check_reach, BOW, "a", ("a",), value)
            if not isinstance(value, tuple):
                self.fails(InvalidLook(-1), check_reach, BOW, "a", ("a",), Reached(value, (0,) * 5))
            self.fails(InvalidLook(0), check_reach, BOW, "a", ("a",), Reached((value,), (0,) * 5))
            self.fails(InvalidLook(0), check_reach, BOW, "a", ("a",), Reached((), value))
            self.fails(InvalidLook(0), check_reach, BOW, "a", ("b",), Unreached(value))
            self.fails(InvalidLook(0), check_reach, BOW, "a", ("b",), Unreached(("a", value)))
            for at in range(5):
                # Nothing but "c" itself can follow "c", so its level may be as great as may be.
                if value != 10 ** 30 or at != 2:
                    levels = (0, 1, 1, 1, 1)
                    self.fails(InvalidLook(0), check_reach, BOW, "a", ("a",), Reached((), levels[:at] + (value,) + levels[at + 1:]))

    def test_errors_in_order(self):
        for value in odd_values() + ["z", ("a",)]:
            self.fails(Refused("outcome"), reach, BOW, value, None)
            self.fails(Refused("outcome"), check_reach, BOW, value, None, None)
            self.fails(Refused("outcome"), looks_needed, BOW, value, None)
            if not isinstance(value, tuple):
                self.fails(InvalidSaying(-1), reach, BOW, "a", value)
            self.fails(InvalidSaying(1), reach, BOW, "a", ("a", value))
            self.fails(InvalidSaying(1), check_reach, BOW, "a", ("a", value), None)
            self.fails(InvalidSaying(1), looks_needed, BOW, "a", ("a", value))
        self.fails(InvalidSaying(2), reach, BOW, "a", ("d", "e"))

    def test_large_books(self):
        for each in LARGE + [FIVE, star(3), GRID, TRIANGLE]:
            names = each.outcomes()
            self.assertIsNone(check_reach(each, names[0], (names[-1],), reach(each, names[0], (names[-1],))))


if __name__ == "__main__":
    unittest.main()
