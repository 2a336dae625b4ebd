"""Fractions: point [50]."""

import unittest
from fractions import Fraction

from common import Case, odd_values
from roomlooks.errors import InvalidNumber
from roomlooks.fractions import fraction_of, is_fraction, less, minus, plus, ratio, sum_of, times

VALUES = [(top, bottom) for top in range(-7, 8) for bottom in range(1, 7) if Fraction(top, bottom).denominator == bottom]


def pair(value):
    return (value.numerator, value.denominator)


class FractionTests(Case):
    def test_fraction_of(self):
        for top in range(-12, 13):
            for bottom in range(-12, 13):
                if bottom:
                    self.gives(pair(Fraction(top, bottom)), fraction_of, top, bottom)
        self.gives((0, 1), fraction_of, 0, -7)
        self.gives((-1, 3), fraction_of, 10 ** 40, -3 * 10 ** 40)
        for top in [0, 1, -5]:
            self.fails(InvalidNumber("bottom"), fraction_of, top, 0)

    def test_is_fraction(self):
        for top in range(-6, 7):
            for bottom in range(-6, 7):
                good = bottom > 0 and pair(Fraction(top, bottom)) == (top, bottom)
                self.assertIs(is_fraction((top, bottom)), good)
        for value in odd_values() + [1, (True, 1), (1, True), (1,), (1, 2, 3), [1, 2], (1.0, 2), ("1", 2), (1, None),
                                     ((1, 2), 3), (0, 2), (2, 4), (0, 0), Fraction(1, 2), "12"]:
            self.gives(False, is_fraction, value)
        for value in [(0, 1), (1, 1), (-5, 3), (10 ** 50, 3)]:
            self.gives(True, is_fraction, value)

    def test_arithmetic(self):
        for one in VALUES:
            for other in VALUES[::3]:
                first, second = Fraction(*one), Fraction(*other)
                self.assertEqual(plus(one, other), pair(first + second))
                self.assertEqual(minus(one, other), pair(first - second))
                self.assertEqual(times(one, other), pair(first * second))
                self.assertIs(less(one, other), first < second)
                if second:
                    self.assertEqual(ratio(one, other), pair(first / second))

    def test_in_every_way(self):
        self.gives((1, 6), plus, (2, 3), (-1, 2))
        self.gives((7, 6), minus, (2, 3), (-1, 2))
        self.gives((-1, 3), times, (2, 3), (-1, 2))
        self.gives((-4, 3), ratio, (2, 3), (-1, 2))
        self.gives(False, less, (2, 3), (-1, 2))
        self.gives(False, less, (1, 2), (1, 2))
        self.gives(True, less, (-2, 3), (-1, 2))
        self.fails(InvalidNumber("bottom"), ratio, (2, 3), (0, 1))
        self.fails(InvalidNumber("bottom"), ratio, (0, 1), (0, 1))

    def test_sum_of(self):
        self.gives((0, 1), sum_of, ())
        self.gives((1, 2), sum_of, ((1, 2),))
        self.gives((0, 1), sum_of, ((1, 2), (-1, 3), (-1, 6)))
        self.gives(pair(sum([Fraction(*value) for value in VALUES])), sum_of, tuple(VALUES))


if __name__ == "__main__":
    unittest.main()
