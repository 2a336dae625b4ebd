"""Told shares: points [62] (`grow`) and [63]."""

import random
import unittest
from fractions import Fraction

from common import Case, Thing, odd_values
from samples import (BOW, EIGHT, FANO, FIVE, GRID, HEXAGON, K5, LARGE, LINES, MIDDLE, ONE, PENTAGON, PIECES, SMALL, SQUARE, TORN, TRIANGLE,
                     TWO, UNLIKE, apart, book, made_books, row_of, star)
from test_bounds import NEVER, NEVERS, SEVEN, pair_of, sums_of, worth
from test_corners import made_weight
from test_enough import K4, PETERSEN
from roomlooks.bounds import greatest_share, least_share
from roomlooks.completed import Blocked, Completed, check_completed, complete_shares, grow, share_range
from roomlooks.errors import InvalidNumber, Refused
from roomlooks.grown import Growing, room_growth
from roomlooks.texts import read_book
from roomlooks.trees import extra_shares
from roomlooks.weights import check_some, even_weight, some_weight

BOOKS = SMALL + MIDDLE + [NEVER, NEVERS, SEVEN, K4, PETERSEN, LINES] + made_books(87, 30)
TREES = [ONE, FIVE, BOW, TWO, UNLIKE, PIECES, star(4), star(10), row_of(4, 4), row_of(10), EIGHT, apart(4, 5),
         book("a b c\nc d e f\ne g h\nc i j k\nk l m\nk n o\nx y z")]
FULL, ZERO, HALF, THIRD = (1, 1), (0, 1), (1, 2), (1, 3)


def is_completed(each, told, weight):
    if type(weight) is not tuple or not check_some(each, weight):
        return False
    table = dict(zip(each.outcomes(), weight))
    return all([table[name] == told[name] for name in told])


def is_blocked(each, told, numbers):
    """Whether numbers show that no weight has the told shares, by the words."""
    if len(numbers) != len(each.rooms):
        return False
    sums = dict(zip(each.outcomes(), sums_of(each, numbers)))
    if any([sums[name] < 0 for name in sums if name not in told]):
        return False
    return sum(numbers) < sum([worth(told[name]) * sums[name] for name in told])


def made_told(each, chance):
    """Told shares: of a weight, changed a little, or made up."""
    names, kind = each.outcomes(), chance.choice(["weight", "changed", "made", "whole"])
    lot = chance.sample(names, chance.choice([0, 1, 2, len(names) // 2, len(names)]))
    weight = some_weight(each)
    if isinstance(weight, tuple) and kind in ("weight", "changed"):
        even = even_weight(each)
        table = dict(zip(names, weight if even is None or chance.random() < 0.5 else even))
        told = {name: table[name] for name in lot}
        if kind == "changed" and lot:
            told[lot[0]] = pair_of(worth(told[lot[0]]) + Fraction(1, 7))
        return told
    if kind == "whole":
        return {name: chance.choice([ZERO, ZERO, FULL]) for name in lot}
    return {name: pair_of(Fraction(chance.randint(0, 4), chance.randint(4, 9))) for name in lot}


class CompleteTests(Case):
    def test_classes(self):
        self.assertEqual(vars(Completed(1)), {"weight": 1})
        self.assertEqual(vars(Completed(weight=None)), {"weight": None})
        self.assertEqual(vars(Blocked(1)), {"numbers": 1})
        self.assertEqual(vars(Blocked(numbers=())), {"numbers": ()})

    def test_one_of_both(self):
        chance, kinds = random.Random(1), []
        for each in BOOKS + LARGE:
            for _ in range(8):
                told = made_told(each, chance)
                found = complete_shares(each, told)
                kinds.append(type(found))
                if isinstance(found, Completed):
                    self.assertTrue(is_completed(each, told, found.weight))
                else:
                    self.assertTrue(is_blocked(each, told, found.numbers))
                self.assertIs(check_completed(each, told, found), True)
        self.assertGreater(kinds.count(Completed), 150)
        self.assertGreater(kinds.count(Blocked), 150)

    def test_without_rings(self):
        chance, kinds = random.Random(2), []
        for each in TREES:
            self.assertEqual(extra_shares(each), 0)
            for _ in range(120):
                told = made_told(each, chance)
                found = complete_shares(each, told)
                kinds.append(type(found))
                if isinstance(found, Blocked):
                    self.assertTrue(set(found.numbers) <= {-1, 0, 1})
                elif all([part in (ZERO, FULL) for part in told.values()]):
                    self.assertTrue(set(found.weight) <= {ZERO, FULL})
        self.assertGreater(kinds.count(Completed), 300)
        self.assertGreater(kinds.count(Blocked), 300)

    def test_rows_that_block_together(self):
        # Each room alone could be completed; a row of rooms cannot.
        for many in range(2, 11):
            each = row_of(many)
            links, ends = each.shared(), [name for name in each.outcomes() if name not in each.shared()]
            told = {name: ZERO for name in ends}
            found = complete_shares(each, told)
            # From the first room on, the links must have 1 and 0 in turn, and 1 in the last room.
            self.assertEqual(isinstance(found, Completed), many % 2 == 0)
            if isinstance(found, Blocked):
                self.assertTrue(set(found.numbers) <= {-1, 0, 1})
                self.assertTrue(is_blocked(each, told, found.numbers))
            self.assertEqual(len(links), many - 1)

    def test_told_shares_of_weights(self):
        chance = random.Random(3)
        for each in [BOW, TRIANGLE, GRID, TORN, SQUARE]:
            for _ in range(4):
                table = dict(zip(each.outcomes(), made_weight(each, chance)))
                for names in [each.outcomes(), each.outcomes()[::2], each.outcomes()[:1], ()]:
                    told = {name: table[name] for name in names}
                    found = complete_shares(each, told)
                    self.assertTrue(is_completed(each, told, found.weight))
                    if len(told) == len(each.outcomes()):
                        self.assertEqual(found.weight, tuple([table[name] for name in each.outcomes()]))

    def test_in_every_way(self):
        self.gives(Completed((ZERO, FULL, ZERO)), complete_shares, ONE, {"b": FULL})
        self.gives(Completed((HALF, THIRD, (1, 6))), complete_shares, ONE, {"b": THIRD, "a": HALF})
        for each, told in [(ONE, {}), (SEVEN, {}), (SEVEN, {"a": HALF}), (BOW, {"a": (2, 3), "d": (1, 2), "e": (1, 2)}),
                           (BOW, {"a": (2, 3), "b": THIRD, "d": ZERO, "e": ZERO}), (NEVER, {"x": (1, 100)}), (ONE, {"a": (5, 2)}),
                           (TRIANGLE, {"a": HALF, "c": HALF, "e": HALF}), (FANO, {"a": THIRD}), (FANO, {"a": HALF})]:
            found = complete_shares(each, told)
            self.gives(found, complete_shares, each, told)
            self.gives(True, check_completed, each, told, found)
        self.assertIsInstance(complete_shares(NEVER, {"x": (1, 100)}), Blocked)
        self.assertIsInstance(complete_shares(ONE, {"a": (5, 2)}), Blocked)
        self.assertIsInstance(complete_shares(SEVEN, {}), Blocked)
        self.assertIsInstance(complete_shares(FANO, {"a": THIRD}), Completed)
        # The order in which shares are told does not matter.
        one, other = {"a": HALF, "d": THIRD}, {"d": THIRD, "a": HALF}
        self.assertEqual(complete_shares(BOW, one).weight, complete_shares(BOW, other).weight)

    def test_wrong_told(self):
        wrong = [{"z": HALF}, {"a": (2, 4)}, {"a": (-1, 2)}, {"a": 1}, {"a": None}, {None: HALF}, {("a",): HALF}, {0: HALF}, {"a": [1, 2]},
                 {"a": HALF, "z": HALF}, {"a": (1, 0)}, {"a": (True, 1)}, [("a", HALF)], (("a", HALF),), {"a": 0.5}, {"a": (1, 2, 3)}]
        for value in [value for value in odd_values() if value != {}] + wrong:
            for each in (BOW, SEVEN):
                self.fails(Refused("told"), complete_shares, each, value)
                self.fails(Refused("told"), check_completed, each, value, None)
                self.fails(Refused("told"), share_range, each, value, None)
            self.fails(Refused("told"), complete_shares, BOW, {"a": value})


class CheckTests(Case):
    def test_spoilt_weights(self):
        chance = random.Random(4)
        for each in [ONE, BOW, TRIANGLE, GRID]:
            table = dict(zip(each.outcomes(), made_weight(each, chance)))
            told = {name: table[name] for name in each.outcomes()[::2]}
            good = complete_shares(each, told).weight
            for at, part in enumerate(good):
                for other in [pair_of(worth(part) + 1), pair_of(worth(part) / 2) if part[0] else HALF, None, list(part), (2 * part[0], 2 * part[1])]:
                    value = good[:at] + (other,) + good[at + 1:]
                    self.gives(False, check_completed, each, told, Completed(value))
            for value in [good[1:], good + (ZERO,), list(good), None, ()]:
                self.gives(False, check_completed, each, told, Completed(value))
            for name in told:
                other = {**told, name: pair_of(worth(told[name]) + Fraction(1, 9))}
                self.gives(False, check_completed, each, other, Completed(good))

    def test_all_rows_of_numbers(self):
        chance = random.Random(5)
        for each in [ONE, BOW, TRIANGLE]:
            rows, passed = [()], 0
            for _ in each.rooms:
                rows = [row + (number,) for row in rows for number in (-2, -1, 0, 1, 2)]
            for _ in range(25):
                told = made_told(each, chance)
                for numbers in rows:
                    wanted = is_blocked(each, told, numbers)
                    passed += wanted
                    self.assertIs(check_completed(each, told, Blocked(numbers)), wanted)
            self.assertGreater(passed, 0)

    def test_spoilt_numbers(self):
        for each, told in [(SEVEN, {}), (BOW, {"a": (2, 3), "b": THIRD, "d": ZERO, "e": ZERO}), (FANO, {"a": HALF}), (NEVER, {"x": HALF})]:
            good = complete_shares(each, told).numbers
            for numbers in [good[1:], good + (0,), list(good), None, (), (0,) * len(good), tuple([-n for n in good]), tuple([float(n) for n in good])]:
                self.gives(False, check_completed, each, told, Blocked(numbers))
            for at in range(len(good)):
                for step in (-1, 1):
                    numbers = good[:at] + (good[at] + step,) + good[at + 1:]
                    self.gives(is_blocked(each, told, numbers), check_completed, each, told, Blocked(numbers))
            # Just the same is not less.
            if told:
                low = {name: ZERO for name in told}
                self.gives(is_blocked(each, low, good), check_completed, each, low, Blocked(good))

    def test_any_value(self):
        told, stuck = {"a": HALF}, {"a": (3, 2)}
        good, bad = complete_shares(BOW, told), complete_shares(BOW, stuck)
        for value in odd_values() + [Thing(**vars(good)), Thing(**vars(bad)), good.weight]:
            self.gives(False, check_completed, BOW, told, value)
            self.gives(False, check_completed, BOW, stuck, value)
            if value != good.weight:
                self.gives(False, check_completed, BOW, told, Completed(value))
            self.gives(False, check_completed, BOW, told, Completed((value,) + good.weight[1:]))
            self.gives(False, check_completed, BOW, stuck, Blocked(value))
            if value not in (-1, 10 ** 30):
                self.gives(False, check_completed, BOW, stuck, Blocked((value,) + bad.numbers[1:]))


class RangeTests(Case):
    def test_ranges(self):
        chance, kinds = random.Random(6), []
        for each in BOOKS:
            for _ in range(5):
                told, outcome = made_told(each, chance), chance.choice(each.outcomes())
                found = share_range(each, told, outcome)
                kinds.append(found is None)
                if found is None:
                    self.assertIsInstance(complete_shares(each, told), Blocked)
                    continue
                low, high = found
                if outcome in told:
                    self.assertEqual(found, (told[outcome], told[outcome]))
                    continue
                for value in (low, high, pair_of((worth(low) + worth(high)) / 2)):
                    self.assertIsInstance(complete_shares(each, {**told, outcome: value}), Completed)
                if low != ZERO:
                    self.assertIsInstance(complete_shares(each, {**told, outcome: pair_of(worth(low) - Fraction(1, 10 ** 6))}), Blocked)
                self.assertIsInstance(complete_shares(each, {**told, outcome: pair_of(worth(high) + Fraction(1, 10 ** 6))}), Blocked)
                if not told:
                    self.assertEqual(found, (least_share(each, (outcome,)).value, greatest_share(each, (outcome,)).value))
        self.assertGreater(kinds.count(True), 30)
        self.assertGreater(kinds.count(False), 60)

    def test_example(self):
        self.gives((THIRD, THIRD), share_range, read_book("a b c\nc d e\ne f a\nb d f"), {"a": THIRD}, "d")

    def test_in_every_way(self):
        self.gives((ZERO, FULL), share_range, ONE, {}, "a")
        self.gives((ZERO, (2, 3)), share_range, ONE, {"b": THIRD}, "a")
        self.gives((THIRD, THIRD), share_range, ONE, {"b": THIRD}, "b")
        self.gives(None, share_range, ONE, {"b": (4, 3)}, "b")
        self.gives(None, share_range, ONE, {"a": HALF, "b": HALF, "c": HALF}, "b")
        self.gives((HALF, HALF), share_range, ONE, {"a": HALF, "b": HALF, "c": ZERO}, "b")
        self.gives(None, share_range, SEVEN, {}, "a")
        self.gives((ZERO, ZERO), share_range, NEVER, {}, "x")
        self.gives((HALF, HALF), share_range, BOW, {"a": HALF, "b": ZERO}, "c")

    def test_wrong_outcomes(self):
        for value in odd_values() + ["z", ("a",)]:
            for each, told in [(BOW, {}), (BOW, {"a": (3, 2)}), (SEVEN, {})]:
                self.fails(Refused("outcome"), share_range, each, told, value)


class GrowTests(Case):
    def test_grow(self):
        chance, kinds = random.Random(7), []
        for each in BOOKS:
            for room, outcomes in enumerate(each.rooms):
                parts = [chance.randint(0, 3) for _ in outcomes]
                parts[0] += sum(parts) == 0
                shares = tuple([pair_of(Fraction(part, sum(parts))) for part in parts])
                found, told = grow(each, room, shares), dict(zip(outcomes, shares))
                kinds.append(type(found))
                if isinstance(found, Completed):
                    self.assertTrue(is_completed(each, told, found.weight))
                else:
                    self.assertTrue(is_blocked(each, told, found.numbers))
                    self.assertNotIsInstance(room_growth(each, room), Growing)
        self.assertGreater(kinds.count(Completed), 80)
        self.assertGreater(kinds.count(Blocked), 15)

    def test_in_every_way(self):
        self.gives(Completed((HALF, THIRD, (1, 6))), grow, ONE, 0, (HALF, THIRD, (1, 6)))
        for each, room, shares in [(BOW, 1, (HALF, ZERO, HALF)), (FANO, 0, (FULL, ZERO, ZERO)), (SEVEN, 0, (FULL, ZERO, ZERO, ZERO)),
                                   (TRIANGLE, 2, (THIRD, THIRD, THIRD)), (NEVER, 0, (ZERO, ZERO, HALF, HALF))]:
            found = grow(each, room, shares)
            self.gives(found, grow, each, room, shares)
            self.gives(True, check_completed, each, dict(zip(each.rooms[room], shares)), found)

    def test_wrong_values(self):
        for value in odd_values() + [2, -1]:
            self.fails(InvalidNumber("room"), grow, BOW, value, None)
        for value in odd_values() + [(HALF, HALF), (HALF, HALF, HALF), (FULL, ZERO, ZERO, ZERO), [FULL, ZERO, ZERO], ((2, 2), ZERO, ZERO),
                                     ((3, 2), (-1, 2), ZERO), (1, 0, 0), (FULL, ZERO, None), (HALF, THIRD, THIRD), {"a": FULL}]:
            for each in (BOW, TRIANGLE):
                self.fails(InvalidNumber("shares"), grow, each, 0, value)
                self.fails(InvalidNumber("shares"), grow, each, 1, (value, ZERO, FULL))

    def test_other_books(self):
        for each in [FIVE, TWO, PENTAGON, HEXAGON, K5]:
            shares = (FULL,) + (ZERO,) * (len(each.rooms[0]) - 1)
            self.assertTrue(check_completed(each, dict(zip(each.rooms[0], shares)), grow(each, 0, shares)))


if __name__ == "__main__":
    unittest.main()
