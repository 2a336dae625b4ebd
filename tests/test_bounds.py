"""Least and greatest totals, what never comes, shifts: points [53] to [56]."""

import random
import unittest
from fractions import Fraction
from itertools import combinations

from common import Case, Thing, odd_values
from oracle import Model, short_rings_of
from samples import (BOW, FANO, FIVE, GRID, HEXAGON, K5, LARGE, LINES, MIDDLE, ONE, SMALL, SQUARE, TORN, TRIANGLE, TWO, UNLIKE,
                     apart, book, made_books, ring_of)
from roomlooks.bounds import (Full, Greatest, Least, check_full, check_greatest, check_least, freedom, full_weight,
                              greatest_share, greatest_total, least_share, least_total, never, shifts, weight_at)
from roomlooks.errors import InvalidNumber, InvalidSaying, NoWeight, Refused
from roomlooks.texts import read_book
from roomlooks.weights import check_some, even_weight, factors_of, some_weight, weigh

SEVEN = book("a b c d\ne f g h\ni j k l\na e i\nb f j\nc g k\nd h l")
# The rooms "a d g", "b e h" and "c f i" leave nothing for "x", which three rooms have besides.
NEVER = book("a b c x\nd e f x\ng h i x\na d g\nb e h\nc f i")
# Here "x" and "y" never come, for several reasons at once.
NEVERS = book("a b c x\nd e f x\ng h i y\na d g\nb e h\nc f i")
BOOKS = SMALL + MIDDLE + [NEVER, NEVERS, FANO, LARGE[0], ring_of(7)] + made_books(52, 25)
HALF = (1, 2)


def worth(pair):
    return Fraction(pair[0], pair[1])


def pair_of(value):
    return (Fraction(value).numerator, Fraction(value).denominator)


def made_factors(each, chance):
    return tuple([chance.randint(-4, 6) for _ in each.outcomes()])


def total_of(weight, factors):
    return sum([factor * worth(part) for factor, part in zip(factors, weight)])


def sums_of(each, numbers):
    return [sum([numbers[room] for room in each.rooms_of(name)]) for name in each.outcomes()]


def is_least(each, factors, found):
    """Whether a Least of the right kinds has what point [53] asks for."""
    if found.bottom < 1 or not check_some(each, found.weight) or total_of(found.weight, factors) != worth(found.value):
        return False
    if any([total > found.bottom * factor for total, factor in zip(sums_of(each, found.numbers), factors)]):
        return False
    return Fraction(sum(found.numbers), found.bottom) == worth(found.value)


class TotalTests(Case):
    def test_least_and_greatest(self):
        chance = random.Random(1)
        for each in BOOKS:
            for _ in range(3):
                factors = made_factors(each, chance)
                low, high = least_total(each, factors), greatest_total(each, factors)
                self.assertTrue(is_least(each, factors, low))
                turned = Least(pair_of(-worth(high.value)), high.weight, tuple([-n for n in high.numbers]), high.bottom)
                minus = tuple([-factor for factor in factors])
                self.assertEqual(total_of(high.weight, factors), worth(high.value))
                self.assertTrue(is_least(each, minus, turned))
                self.assertIs(check_least(each, factors, low), True)
                self.assertIs(check_greatest(each, factors, high), True)
                self.assertLessEqual(worth(low.value), total_of(some_weight(each), factors))
                self.assertLessEqual(total_of(some_weight(each), factors), worth(high.value))

    def test_in_every_way(self):
        factors = (1, 0, 1, 0, 1, 0)
        self.assertEqual(greatest_total(read_book("a b c\nc d e\ne f a"), factors).value, (3, 2))
        for each, more in [(TRIANGLE, factors), (BOW, (3, -1, 0, 2, 2)), (ONE, (0, 0, 0)), (FIVE, (5, 4, 3, 2, 1))]:
            self.gives(least_total(each, more), least_total, each, more)
            self.gives(greatest_total(each, more), greatest_total, each, more)
            self.gives(True, check_least, each, more, least_total(each, more))
            self.gives(True, check_greatest, each, more, greatest_total(each, more))
        self.assertEqual(least_total(FIVE, (5, 4, 3, 2, 1)).value, (1, 1))
        self.assertEqual(greatest_total(FIVE, (5, 4, 3, 2, 1)).value, (5, 1))
        self.assertEqual(greatest_total(BOW, (10 ** 40, 0, 0, 0, 10 ** 40)).value, (2 * 10 ** 40, 1))

    def test_classes(self):
        for made in (Least, Greatest):
            self.assertEqual(vars(made(1, 2, 3, 4)), {"value": 1, "weight": 2, "numbers": 3, "bottom": 4})
            self.assertEqual(vars(made(value=(), weight=None, numbers=[], bottom="a")),
                             {"value": (), "weight": None, "numbers": [], "bottom": "a"})
        self.assertEqual(vars(Full(1, 2)), {"weight": 1, "numbers": 2})
        self.assertEqual(vars(Full(weight=None, numbers=())), {"weight": None, "numbers": ()})

    def test_spoilt(self):
        chance = random.Random(2)
        for each in [ONE, BOW, TRIANGLE, UNLIKE, SQUARE, TORN]:
            factors = made_factors(each, chance)
            for find, check, made in [(least_total, check_least, Least), (greatest_total, check_greatest, Greatest)]:
                good = find(each, factors)
                others = {
                    "value": [pair_of(worth(good.value) + 1), pair_of(worth(good.value) - Fraction(1, 7)), worth(good.value),
                              (2 * good.value[0], 2 * good.value[1]), list(good.value), (float(good.value[0]), good.value[1])],
                    "weight": [good.weight[1:], list(good.weight), good.weight + ((0, 1),), good.weight[::-1]],
                    "numbers": [good.numbers[1:], list(good.numbers), good.numbers + (0,), (good.numbers[0] + 1,) + good.numbers[1:],
                                (good.numbers[0] - 1,) + good.numbers[1:], tuple([float(n) for n in good.numbers])],
                    "bottom": [0, -good.bottom, good.bottom + 1, str(good.bottom), True, float(good.bottom), None],
                }
                for name in others:
                    for other in others[name] + [None, (), 7, True]:
                        value = made(**{**vars(good), name: other})
                        if plain_enough(each, value):
                            minus = tuple([-factor for factor in factors])
                            turned = value if made == Least else Least(
                                pair_of(-worth(value.value)), value.weight, tuple([-n for n in value.numbers]), value.bottom)
                            wanted = is_least(each, factors if made == Least else minus, turned)
                        else:
                            wanted = False
                        self.gives(wanted, check, each, factors, value)

    def test_not_the_least(self):
        # A weight that has its total, with numbers that show something else.
        weight = ((1, 1), (0, 1), (0, 1))
        self.gives(True, check_least, ONE, (1, 2, 3), Least((1, 1), weight, (1,), 1))
        self.gives(True, check_least, ONE, (1, 2, 3), Least((1, 1), weight, (5,), 5))
        self.gives(False, check_least, ONE, (1, 2, 3), Least((2, 1), weight, (2,), 1))
        self.gives(False, check_greatest, ONE, (1, 2, 3), Greatest((1, 1), weight, (1,), 1))
        self.gives(False, check_least, ONE, (1, 2, 0), Least((1, 1), weight, (1,), 1))
        self.gives(False, check_least, ONE, (1, 2, 3), Greatest((1, 1), weight, (1,), 1))
        self.gives(True, check_greatest, ONE, (1, 0, 1), Greatest((1, 1), weight, (1,), 1))
        self.gives(False, check_greatest, ONE, (1, 0, 1), Least((1, 1), weight, (1,), 1))

    def test_any_value(self):
        good = least_total(BOW, (1, 2, 3, 4, 5))
        high = greatest_total(BOW, (1, 2, 3, 4, 5))
        for value in odd_values() + [Thing(**vars(good)), Thing(**vars(high))]:
            self.gives(False, check_least, BOW, (1, 2, 3, 4, 5), value)
            self.gives(False, check_greatest, BOW, (1, 2, 3, 4, 5), value)
            for name in vars(good):
                self.gives(False, check_least, BOW, (1, 2, 3, 4, 5), Least(**{**vars(good), name: value}))
                self.gives(False, check_greatest, BOW, (1, 2, 3, 4, 5), Greatest(**{**vars(high), name: value}))

    def test_wrong_factors(self):
        for value in odd_values() + [(1, 2, 3, 4), (1,) * 6, [1] * 5, (1, 2, 3, 4, True), (1, 2, 3, 4, 5.0)]:
            for each in (BOW, SEVEN):
                self.fails(InvalidNumber("factors"), least_total, each, value)
                self.fails(InvalidNumber("factors"), greatest_total, each, value)
                self.fails(InvalidNumber("factors"), check_least, each, value, None)
                self.fails(InvalidNumber("factors"), check_greatest, each, value, None)
                self.fails(InvalidNumber("factors"), weight_at, each, value, None)

    def test_no_weight(self):
        factors = (1,) * 12
        self.fails(NoWeight(), least_total, SEVEN, factors)
        self.fails(NoWeight(), greatest_total, SEVEN, factors)
        self.fails(NoWeight(), weight_at, SEVEN, factors, (1, 1))
        self.fails(NoWeight(), least_share, SEVEN, ("a",))
        self.fails(NoWeight(), greatest_share, SEVEN, ())
        for function in (full_weight, never, shifts, freedom):
            self.fails(NoWeight(), function, SEVEN)
        weight = ((1, 4),) * 12
        self.gives(False, check_least, SEVEN, factors, Least((3, 1), weight, (1, 1, 1, 0, 0, 0, 0), 1))
        self.gives(False, check_full, SEVEN, Full(weight, (0,) * 7))


def plain_enough(each, value):
    """Whether a bound has attributes of the kinds with which its rule can be worked out."""
    def integer(item):
        return type(item) is int

    if not (type(value.value) is tuple and len(value.value) == 2 and all([integer(item) for item in value.value])):
        return False
    if value.value[1] < 1 or value.value != pair_of(worth(value.value)):
        return False
    if type(value.numbers) is not tuple or len(value.numbers) != len(each.rooms) or not all(map(integer, value.numbers)):
        return False
    return integer(value.bottom) and value.bottom > 0


class BetweenTests(Case):
    def test_weight_at(self):
        chance = random.Random(3)
        for each in BOOKS:
            factors = made_factors(each, chance)
            low, high = worth(least_total(each, factors).value), worth(greatest_total(each, factors).value)
            for part in [Fraction(0), Fraction(1), Fraction(1, 2), Fraction(3, 11), Fraction(7, 8)]:
                wanted = pair_of(low + part * (high - low))
                found = weight_at(each, factors, wanted)
                self.assertTrue(check_some(each, found))
                self.assertEqual(weigh(each, found, factors), wanted)
            for value in [low - Fraction(1, 10 ** 9), high + Fraction(1, 10 ** 9), low - 5, high + 3]:
                with self.assertRaises(Refused) as caught:
                    weight_at(each, factors, pair_of(value))
                self.assertEqual(caught.exception.word, "value")

    def test_in_every_way(self):
        for value in [(1, 1), (3, 2), (2, 1)]:
            found = weight_at(ONE, (1, 2, 2), value)
            self.gives(found, weight_at, ONE, (1, 2, 2), value)
        self.gives(weight_at(ONE, (4, 4, 4), (4, 1)), weight_at, ONE, (4, 4, 4), (4, 1))
        self.fails(Refused("value"), weight_at, ONE, (4, 4, 4), (3, 1))
        self.fails(Refused("value"), weight_at, ONE, (1, 2, 3), (0, 1))

    def test_wrong_values(self):
        for value in odd_values() + [1, 0.5, (2, 4), (1, 0), (1, -1), [1, 2], "1/2", (1, 2, 3), (True, 1), (1.0, 1)]:
            self.fails(InvalidNumber("value"), weight_at, ONE, (1, 2, 3), value)
            self.fails(InvalidNumber("value"), weight_at, SEVEN, (1,) * 12, value)
            self.fails(InvalidNumber("factors"), weight_at, ONE, (1, 2), value)


class ShareTests(Case):
    def test_shares(self):
        for each in SMALL + [NEVER, GRID]:
            model = Model(each.rooms)
            sayings = model.sayings[::1 + len(model.sayings) // 10]
            bounds = {}
            for saying in sayings:
                factors = factors_of(each, ((1, saying),))
                low, high = least_share(each, saying), greatest_share(each, saying)
                self.assertTrue(check_least(each, factors, low))
                self.assertTrue(check_greatest(each, factors, high))
                bounds[saying] = (worth(low.value), worth(high.value))
                turned = worth(greatest_share(each, model.opposite(saying)).value)
                self.assertEqual(turned, 1 - bounds[saying][0])
            for one, other in combinations(sayings, 2):
                if model.implies(one, other):
                    self.assertLessEqual(bounds[one][0], bounds[other][0])
                    self.assertLessEqual(bounds[one][1], bounds[other][1])

    def test_in_every_way(self):
        for saying in [(), ("c",), ("a", "b"), ("a", "b", "c")]:
            self.gives(least_share(BOW, saying), least_share, BOW, saying)
            self.gives(greatest_share(BOW, saying), greatest_share, BOW, saying)
        self.assertEqual(greatest_share(NEVER, ("x",)).value, (0, 1))
        self.assertEqual(least_share(NEVER, ("a", "b", "c")).value, (1, 1))

    def test_wrong_sayings(self):
        for value in odd_values():
            for each in (BOW, SEVEN):
                for function in (least_share, greatest_share):
                    if not isinstance(value, tuple):
                        self.fails(InvalidSaying(-1), function, each, value)
                    self.fails(InvalidSaying(1), function, each, ("a", value))
        self.fails(InvalidSaying(2), least_share, BOW, ("d", "e"))


class NeverTests(Case):
    def test_full_weights(self):
        for each in BOOKS:
            found = full_weight(each)
            self.assertIs(check_full(each, found), True)
            self.assertTrue(check_some(each, found.weight))
            self.assertEqual(sum(found.numbers), 0)
            gone = []
            for name, part, total in zip(each.outcomes(), found.weight, sums_of(each, found.numbers)):
                self.assertEqual(part[0] == 0, total > 0)
                self.assertGreaterEqual(total, 0)
                gone += [name] if part[0] == 0 else []
            self.assertEqual(never(each), tuple(gone))
            for name in each.outcomes():
                self.assertEqual(greatest_share(each, (name,)).value == (0, 1), name in gone)
            if gone:
                self.assertGreaterEqual(len(each.rooms), 6)
                self.assertTrue(short_rings_of(each.rooms))

    def test_in_every_way(self):
        self.gives(("x",), never, NEVER)
        self.gives(("x", "y"), never, NEVERS)
        self.gives(True, check_full, NEVERS, Full(full_weight(NEVERS).weight, (1, 1, 1, -1, -1, -1)))
        self.gives((), never, BOW)
        for each in [ONE, BOW, NEVER, TRIANGLE, K5, LINES, HEXAGON]:
            self.gives(full_weight(each), full_weight, each)
            self.gives(never(each), never, each)
            self.gives(True, check_full, each, full_weight(each))

    def test_spoilt(self):
        good = full_weight(NEVER)
        self.gives(True, check_full, NEVER, Full(good.weight, (1, 1, 1, -1, -1, -1)))
        self.gives(True, check_full, NEVER, Full(good.weight, (5, 5, 5, -5, -5, -5)))
        for numbers in [(0,) * 6, (1, 1, 1, -1, -1), (1, 1, 1, -1, -1, -1, 0), [1, 1, 1, -1, -1, -1], (-1, -1, -1, 1, 1, 1), None,
                        (2, 1, 1, -1, -1, -1), (1, 1, 1, -1, -1, -2), (True, 1, 1, -1, -1, -1), (1.0, 1, 1, -1, -1, -1), ()]:
            self.gives(False, check_full, NEVER, Full(good.weight, numbers))
        for weight in [good.weight[1:], list(good.weight), None, (), good.weight + ((0, 1),), good.weight[::-1]]:
            self.gives(False, check_full, NEVER, Full(weight, good.numbers))
        corner = some_corner(BOW)
        self.gives(False, check_full, BOW, Full(corner, (0, 0)))
        self.gives(True, check_full, BOW, Full(even_weight(BOW), (0, 0)))
        self.gives(False, check_full, BOW, Full(even_weight(BOW), (1, -1)))

    def test_any_value(self):
        good = full_weight(NEVER)
        for value in odd_values() + [Thing(**vars(good))]:
            self.gives(False, check_full, NEVER, value)
            self.gives(False, check_full, NEVER, Full(value, good.numbers))
            self.gives(False, check_full, NEVER, Full(good.weight, value))
            self.gives(False, check_full, NEVER, Full(good.weight, (value,) + good.numbers[1:]))


def some_corner(each):
    return least_total(each, tuple(range(len(each.outcomes())))).weight


def rank(rows):
    """The rank of a list of rows of integers."""
    rows, found = [[Fraction(entry) for entry in row] for row in rows], 0
    for column in range(len(rows[0]) if rows else 0):
        pivots = [row for row in rows[found:] if row[column]]
        if pivots:
            at = found + rows[found:].index(pivots[0])
            rows[found], rows[at] = rows[at], rows[found]
            for other in range(found + 1, len(rows)):
                part = rows[other][column] / rows[found][column]
                rows[other] = [a - part * b for a, b in zip(rows[other], rows[found])]
            found += 1
    return found


class ShiftTests(Case):
    def test_shifts(self):
        for each in BOOKS:
            found, gone = shifts(each), never(each)
            self.assertIsInstance(found, tuple)
            places = dict(zip(each.outcomes(), range(len(each.outcomes()))))
            for shift in found:
                self.assertEqual([type(shift), len(shift)], [tuple, len(places)])
                self.assertTrue(all([type(entry) is int for entry in shift]))
                self.assertFalse(any([shift[places[name]] for name in gone]))
                self.assertFalse(any([sum([shift[places[name]] for name in room]) for room in each.rooms]))
            rows = [[1 if name in room else 0 for name in each.outcomes()] for room in each.rooms]
            rows += [[1 if name == other else 0 for name in each.outcomes()] for other in gone]
            self.assertEqual(len(found), len(places) - rank(rows))
            self.assertEqual(rank(found), len(found))
            self.assertEqual(freedom(each), len(found))

    def test_same_totals(self):
        chance = random.Random(4)
        for each in SMALL + [NEVER]:
            for _ in range(6):
                numbers = [chance.randint(-2, 2) for _ in each.rooms]
                factors = tuple(sums_of(each, numbers))
                if chance.random() < 0.5:
                    factors = (factors[0] + 1,) + factors[1:]
                same = least_total(each, factors).value == greatest_total(each, factors).value
                sums = [sum([a * b for a, b in zip(factors, shift)]) for shift in shifts(each)]
                self.assertEqual(same, not any(sums))

    def test_in_every_way(self):
        self.gives(3, freedom, read_book("a b c\nc d e\ne f a"))
        self.gives(2, freedom, ONE)
        self.gives(4, freedom, TWO)
        self.gives(16, freedom, apart(4, 5))
        for each in [ONE, BOW, NEVER, FANO, LARGE[1]]:
            self.gives(shifts(each), shifts, each)
            self.gives(freedom(each), freedom, each)


if __name__ == "__main__":
    unittest.main()
