"""Weights: the opening of chapter 9, points [51] and [52]."""

import random
import unittest
from fractions import Fraction

from common import Case, Thing, odd_values
from oracle import Model, short_rings_of
from samples import (BOW, EIGHT, FANO, FIVE, GRID, HEXAGON, K5, LAMP, LARGE, LINES, MIDDLE, ONE, PIECES, SMALL, TORN,
                     TRIANGLE, TWO, UNLIKE, apart, book, made_books, made_houses, ring_of, star)
from roomlooks.errors import InvalidNumber, InvalidSaying, InvalidWeight, Refused
from roomlooks.sayings import all_sayings
from roomlooks.weights import (Weightless, blended, check_some, check_weight, even_weight, factors_of, share, some_weight,
                               weigh)

HALF, THIRD, ZERO, FULL = (1, 2), (1, 3), (0, 1), (1, 1)
# Three rooms of four outcomes and four of three: the twelve outcomes would sum to 3 and to 4.
SEVEN = book("a b c d\ne f g h\ni j k l\na e i\nb f j\nc g k\nd h l")
EIGHTH = book("a b c d\ne f g h\ni j k l\na e i\nb f j\nc g k\nd h l\na x y")
BOOKS = SMALL + MIDDLE + LARGE + made_books(44, 40)
BOW_WEIGHT = (HALF, HALF, ZERO, (1, 4), (3, 4))


def worth(pair):
    return Fraction(pair[0], pair[1])


def pair_of(value):
    value = Fraction(value)
    return (value.numerator, value.denominator)


def is_weight(each, value):
    shares = dict(zip(each.outcomes(), [worth(pair) for pair in value]))
    return min(shares.values()) >= 0 and all([sum([shares[name] for name in room]) == 1 for room in each.rooms])


def two_weights(each):
    """Two weights of a book that has any: one of settings, where there are some, and some weight."""
    return [some_weight(each), even_weight(each) or some_weight(each)]


class CheckTests(Case):
    def test_weights(self):
        for each in BOOKS:
            for weight in two_weights(each):
                self.assertIsNone(check_weight(each, weight))
                self.assertTrue(is_weight(each, weight))
        self.gives(None, check_weight, BOW, BOW_WEIGHT)
        self.gives(None, check_weight, BOW, (ZERO, ZERO, FULL, ZERO, ZERO))
        self.gives(None, check_weight, ONE, (ZERO, (10 ** 30 - 1, 10 ** 30), (1, 10 ** 30)))

    def test_wrong_places(self):
        for at in range(5):
            for part in [(-1, 2), (2, 4), (0, 2), (1, 0), (1, -2), 1, 0, 0.5, None, [1, 2], (1,), (1, 2, 3), "1/2", (True, 2),
                         (1.0, 2), (HALF, 1), Fraction(1, 2)]:
                wrong = BOW_WEIGHT[:at] + (part,) + BOW_WEIGHT[at + 1:]
                self.fails(InvalidWeight(at), check_weight, BOW, wrong)
                self.fails(InvalidWeight(at), check_weight, BOW, wrong + (None,))
                self.fails(InvalidWeight(at), check_weight, BOW, wrong[:at + 1])
            self.fails(InvalidWeight(at), check_weight, BOW, BOW_WEIGHT[:at])
        self.fails(InvalidWeight(5), check_weight, BOW, BOW_WEIGHT + (ZERO,))
        self.fails(InvalidWeight(5), check_weight, BOW, BOW_WEIGHT + (None, None))
        self.fails(InvalidWeight(0), check_weight, BOW, ())

    def test_wrong_sums(self):
        self.fails(InvalidWeight(6), check_weight, BOW, (HALF, THIRD, ZERO, HALF, HALF))
        self.fails(InvalidWeight(6), check_weight, BOW, (ZERO,) * 5)
        self.fails(InvalidWeight(7), check_weight, BOW, (HALF, HALF, ZERO, HALF, THIRD))
        self.fails(InvalidWeight(7), check_weight, BOW, (ZERO, ZERO, FULL, FULL, ZERO))
        self.fails(InvalidWeight(5), check_weight, BOW, (ZERO,) * 6)
        for each in [GRID, PIECES, LAMP]:
            many, good = len(each.outcomes()), some_weight(each)
            for room in range(len(each.rooms)):
                own = [name for name in each.rooms[room] if len(each.rooms_of(name)) == 1]
                for name in own:
                    at = each.outcomes().index(name)
                    bad = good[:at] + (pair_of(worth(good[at]) + 1),) + good[at + 1:]
                    self.fails(InvalidWeight(many + 1 + room), check_weight, each, bad)

    def test_any_value(self):
        for value in odd_values():
            at = 0 if isinstance(value, tuple) else -1
            self.fails(InvalidWeight(at), check_weight, BOW, value)
        self.fails(InvalidWeight(-1), check_weight, BOW, list(BOW_WEIGHT))


class TotalTests(Case):
    def test_factors(self):
        self.gives((3, 3, -1, 0, 0), factors_of, BOW, ((3, ("a", "b")), (-1, ("c",))))
        self.gives((0, 0, 0, 0, 0), factors_of, BOW, ())
        self.gives((2, 2, 2, 0, 0), factors_of, BOW, ((2, ("a", "b", "c")), (5, ())))
        self.gives((0, 0, 7, 7, 0), factors_of, BOW, ((4, ("c", "d")), (3, ("c", "d"))))
        for each in SMALL:
            sayings = all_sayings(each)
            pairs = tuple([(k * k - 7, saying) for k, saying in enumerate(sayings)])
            wanted = [sum([number for number, saying in pairs if name in saying]) for name in each.outcomes()]
            self.gives(tuple(wanted), factors_of, each, pairs)

    def test_wrong_sayings_in_pairs(self):
        for value in odd_values():
            if not isinstance(value, tuple):
                self.fails(InvalidSaying(-1), factors_of, BOW, ((1, value), (1, ("z",))))
            self.fails(InvalidSaying(1), factors_of, BOW, ((1, ("a",)), (1, ("a", value)), (1, None)))
        self.fails(InvalidSaying(2), factors_of, BOW, ((1, ("d", "e")),))
        self.fails(InvalidSaying(3), factors_of, BOW, ((0, ()), (0, ("c", "d", "e"))))

    def test_totals(self):
        chance = random.Random(1)
        for each in BOOKS:
            for weight in two_weights(each):
                factors = tuple([chance.randint(-9, 9) for _ in each.outcomes()])
                wanted = sum([factor * worth(part) for factor, part in zip(factors, weight)])
                self.assertEqual(weigh(each, weight, factors), pair_of(wanted))
        self.gives((13, 4), weigh, BOW, BOW_WEIGHT, (1, 1, 100, 0, 3))
        self.gives(ZERO, weigh, BOW, BOW_WEIGHT, (1, -1, 3, 0, 0))
        self.gives((-75 * 10 ** 38, 1), weigh, ONE, (ZERO, (3, 4), (1, 4)), (0, -10 ** 40, 0))
        self.gives((2, 1), weigh, BOW, BOW_WEIGHT, (1,) * 5)

    def test_wrong_factors(self):
        good = (1, 2, 3, 4, 5)
        for value in odd_values() + [good[1:], good + (6,), list(good), (1, 2, True, 4, 5), (1, 2, 3.0, 4, 5), ((1, 1),) * 5]:
            self.fails(InvalidNumber("factors"), weigh, BOW, BOW_WEIGHT, value)
            if value not in (-1, 10 ** 30):
                self.fails(InvalidNumber("factors"), weigh, BOW, BOW_WEIGHT, (1, 2, 3, 4, value))
            self.fails(InvalidWeight(4), weigh, BOW, BOW_WEIGHT[:4], value)

    def test_shares(self):
        for each in BOOKS[:24]:
            model = Model(each.rooms)
            for weight in two_weights(each):
                shares = dict(zip(each.outcomes(), [worth(part) for part in weight]))
                for saying in model.sayings:
                    sums = set([sum([shares[name] for name in lot]) for _, lot in model.forms[saying]])
                    self.assertEqual(len(sums), 1)
                    self.assertEqual(share(each, weight, saying), pair_of(sums.pop()))
        self.gives(FULL, share, BOW, BOW_WEIGHT, ("a", "b"))
        self.gives((1, 4), share, BOW, BOW_WEIGHT, ("c", "d"))
        self.gives(ZERO, share, BOW, BOW_WEIGHT, ())
        self.gives(FULL, share, BOW, BOW_WEIGHT, ("a", "b", "c"))

    def test_wrong_shares(self):
        for value in odd_values():
            at = 0 if isinstance(value, tuple) else -1
            self.fails(InvalidWeight(at), share, BOW, value, None)
            self.fails(InvalidWeight(at), weigh, BOW, value, None)
            if not isinstance(value, tuple):
                self.fails(InvalidSaying(-1), share, BOW, BOW_WEIGHT, value)
            self.fails(InvalidSaying(0), share, BOW, BOW_WEIGHT, (value,))
        self.fails(InvalidWeight(7), share, BOW, (ZERO, ZERO, FULL, FULL, ZERO), ("z",))


class BlendTests(Case):
    def test_blends(self):
        for each in BOOKS[:30]:
            one, other = two_weights(each)
            for top in range(5):
                pairs = (((top, 4) if top % 2 else pair_of(Fraction(top, 4)), one), (pair_of(Fraction(4 - top, 4)), other))
                found = blended(each, pairs)
                wanted = [worth(pairs[0][0]) * worth(a) + worth(pairs[1][0]) * worth(b) for a, b in zip(one, other)]
                self.assertEqual(found, tuple([pair_of(value) for value in wanted]))
                self.assertIsNone(check_weight(each, found))

    def test_in_every_way(self):
        one, other = (FULL, ZERO, ZERO), (ZERO, ZERO, FULL)
        self.gives((HALF, ZERO, HALF), blended, ONE, ((HALF, one), (HALF, other)))
        self.gives(((3, 4), ZERO, (1, 4)), blended, ONE, ((HALF, one), ((1, 4), one), ((1, 4), other)))
        self.gives(one, blended, ONE, ((FULL, one), (ZERO, other)))
        self.gives(other, blended, ONE, ((FULL, other),))

    def test_wrong_parts(self):
        one, other = (FULL, ZERO, ZERO), (ZERO, ZERO, FULL)
        for pairs in [(), ((HALF, one),), ((HALF, one), ((2, 3), other)), (((3, 2), one), ((-1, 2), other)),
                      (((-1, 2), one), ((3, 2), one)), ((ZERO, one),), ((FULL, one), (FULL, one))]:
            self.fails(Refused("parts"), blended, ONE, pairs)

    def test_wrong_weights(self):
        one = (FULL, ZERO, ZERO)
        for value in odd_values():
            at = 0 if isinstance(value, tuple) else -1
            self.fails(InvalidWeight(at), blended, ONE, ((HALF, value), (HALF, one)))
            self.fails(InvalidWeight(at), blended, ONE, ((FULL, one), (FULL, value), (HALF, one[:2])))
        self.fails(InvalidWeight(4), blended, ONE, ((FULL, one), (ZERO, (HALF, ZERO, ZERO))))


class EvenTests(Case):
    def test_even_weights(self):
        for each in BOOKS:
            unlike = [name for name in each.outcomes() if len(set([len(each.rooms[r]) for r in each.rooms_of(name)])) > 1]
            found = even_weight(each)
            self.assertEqual(found is None, unlike != [])
            if found is not None:
                for name, part in zip(each.outcomes(), found):
                    self.assertEqual(part, (1, len(each.rooms[each.rooms_of(name)[0]])))

    def test_in_every_way(self):
        self.gives((THIRD,) * 5, even_weight, BOW)
        self.gives(None, even_weight, UNLIKE)
        self.gives((THIRD,) * 3 + ((1, 4),) * 4 + ((1, 5),) * 5, even_weight, book("a b c\nd e f g\nh i j k l"))
        self.gives((THIRD,) * 24, even_weight, EIGHT)


class SomeTests(Case):
    def test_weight_or_numbers(self):
        without = 0
        for each in BOOKS + [SEVEN, EIGHTH] + made_houses(45, 12, 8):
            found = some_weight(each)
            self.assertIs(check_some(each, found), True)
            if isinstance(found, Weightless):
                without += 1
                self.assertLess(sum(found.numbers), 0)
                for name in each.outcomes():
                    self.assertGreaterEqual(sum([found.numbers[room] for room in each.rooms_of(name)]), 0)
                self.assertGreaterEqual(len(each.rooms), 7)
                self.assertTrue(short_rings_of(each.rooms))
            else:
                self.assertTrue(is_weight(each, found))
        self.assertGreaterEqual(without, 2)

    def test_books_without_a_weight(self):
        self.assertIsInstance(some_weight(SEVEN), Weightless)
        for each in [SEVEN, EIGHTH, ONE, K5, FANO, LINES, TORN, HEXAGON, TWO, FIVE, star(10), apart(4, 5)]:
            self.gives(some_weight(each), some_weight, each)
            self.gives(True, check_some, each, some_weight(each))
        self.gives(True, check_some, SEVEN, Weightless((1, 1, 1, -1, -1, -1, -1)))
        self.gives(True, check_some, SEVEN, Weightless((10 ** 30,) * 3 + (-10 ** 30,) * 4))

    def test_classes(self):
        self.assertEqual(vars(Weightless((1, 2))), {"numbers": (1, 2)})
        self.assertEqual(vars(Weightless(numbers=None)), {"numbers": None})

    def test_spoilt(self):
        for at in range(7):
            for step in (-1, 1):
                numbers = [1, 1, 1, -1, -1, -1, -1]
                numbers[at] += step
                # One more keeps the sums at all outcomes, but not their sum below 0.
                self.gives(False, check_some, SEVEN, Weightless(tuple(numbers)))
                self.gives(False, check_some, TRIANGLE, Weightless(tuple(numbers[:3])))
        for numbers in [(1, 1, 1, -1, -1, -1), (1, 1, 1, -1, -1, -1, -1, 0), [1, 1, 1, -1, -1, -1, -1], (0,) * 7, (), None,
                        (1, 1, 1, -1, -1, -1, -1.0), (True, 1, 1, -1, -1, -1, -1), (-1,) * 7]:
            self.gives(False, check_some, SEVEN, Weightless(numbers))
        for weight in [BOW_WEIGHT[:4], BOW_WEIGHT + (ZERO,), list(BOW_WEIGHT), (ZERO,) * 5, ()]:
            self.gives(False, check_some, BOW, weight)
        self.gives(True, check_some, BOW, BOW_WEIGHT)

    def test_any_value(self):
        for value in odd_values() + [Thing(numbers=(1, 1, 1, -1, -1, -1, -1))]:
            self.gives(False, check_some, SEVEN, value)
            self.gives(False, check_some, SEVEN, Weightless(value))
            if value != -1:
                self.gives(False, check_some, SEVEN, Weightless((1, 1, 1, -1, -1, -1, value)))
            self.gives(False, check_some, ring_of(7), value)


if __name__ == "__main__":
    unittest.main()
