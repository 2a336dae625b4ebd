"""Corners: point [57]."""

import random
import unittest
from fractions import Fraction
from itertools import combinations

from common import Case, odd_values
from samples import (BOW, EIGHT, FANO, FIVE, FIVES, GRID, HEXAGON, K5, K6, LARGE, LINES, MIDDLE, ONE, PENTAGON, SMALL, SQUARE, TORN,
                     TRIANGLE, TWO, UNLIKE, apart, book, made_books, row_of)
from test_bounds import NEVER, NEVERS, SEVEN
from roomlooks.books import Book
from roomlooks.bounds import freedom, full_weight, greatest_total, least_total
from roomlooks.corners import check_corner_blend, corner_blend, corners, halves, is_corner
from roomlooks.errors import InvalidNumber, InvalidWeight, Refused
from roomlooks.texts import read_book
from roomlooks.weights import blended, check_some, check_weight, even_weight

BOOKS = SMALL + MIDDLE + [NEVER, NEVERS, LINES, FIVES] + made_books(70, 30)
HALF, ZERO, FULL = (1, 2), (0, 1), (1, 1)


def worth(pair):
    return Fraction(pair[0], pair[1])


def pair_of(value):
    return (Fraction(value).numerator, Fraction(value).denominator)


def rank(rows):
    """The rank of a matrix, by Gauss."""
    rows, found = [list(map(Fraction, row)) for row in rows], 0
    for column in range(len(rows[0]) if rows else 0):
        pivots = [row for row in rows[found:] if row[column]]
        if not pivots:
            continue
        pivot = pivots[0]
        rest = [row for row in rows[found:] if row is not pivot]
        rows = rows[:found] + [pivot] + [[b - a * row[column] / pivot[column] for a, b in zip(pivot, row)] for row in rest]
        found += 1
    return found


def columns(each, names):
    return [[1 if name in room else 0 for room in each.rooms] for name in names]


def solution(each, names):
    """The only shares of some outcomes whose columns do not depend on each other, or None."""
    rows = [[Fraction(name in room) for name in names] + [Fraction(1)] for room in each.rooms]
    for at in range(len(names)):
        pivots = [row for row in rows[at:] if row[at]]
        if not pivots:
            return None
        pivot = [entry / pivots[0][at] for entry in pivots[0]]
        rest = [row for row in rows if row is not pivots[0]]
        rest = [[b - row[at] * a for a, b in zip(pivot, row)] for row in rest]
        rows = rest[:at] + [pivot] + rest[at:]
    if any([row[-1] for row in rows[len(names):]]):
        return None
    return [row[-1] for row in rows[:len(names)]]


def all_corners(each):
    """All corners: weights whose outcomes with shares above 0 have columns that do not depend on each other."""
    found, names = [], each.outcomes()
    for many in range(1, len(each.rooms) + 1):
        for lot in combinations(names, many):
            values = solution(each, lot)
            if values is not None and min(values) > 0:
                table = dict(zip(lot, values))
                found.append(tuple([pair_of(table.get(name, 0)) for name in names]))
    return tuple(sorted(found))


def is_weight(each, value):
    return check_some(each, value) and type(value) is tuple


def by_rank(each, weight):
    names = [name for name, part in zip(each.outcomes(), weight) if part[0]]
    return rank(columns(each, names)) == len(names)


class CornerTests(Case):
    def test_all_corners(self):
        for each in [each for each in BOOKS if len(each.rooms) < 6 and len(each.outcomes()) < 16] + [NEVER, SEVEN, FANO]:
            self.assertEqual(corners(each, most=1000), all_corners(each))

    def test_larger_books(self):
        for each in BOOKS + LARGE:
            try:
                found = corners(each)
            except Refused:
                continue
            self.assertEqual(found, tuple(sorted(set(found))))
            for weight in found[::1 + len(found) // 25]:
                self.assertIsNone(check_weight(each, weight))
                self.assertIs(is_corner(each, weight), True)
                self.assertTrue(by_rank(each, weight))

    def test_each_total_is_least_at_some_corner(self):
        chance = random.Random(1)
        for each in BOOKS:
            try:
                found = corners(each)
            except Refused:
                continue
            for _ in range(3):
                factors = tuple([chance.randint(-4, 5) for _ in each.outcomes()])
                totals = [sum([factor * worth(part) for factor, part in zip(factors, weight)]) for weight in found]
                self.assertEqual(min(totals), worth(least_total(each, factors).value))
                self.assertEqual(max(totals), worth(greatest_total(each, factors).value))

    def test_example(self):
        each = read_book("a b c\nc d e\ne f a")
        self.assertEqual((freedom(each), len(corners(each))), (3, 5))

    def test_in_every_way(self):
        self.gives(((ZERO, ZERO, FULL), (ZERO, FULL, ZERO), (FULL, ZERO, ZERO)), corners, ONE)
        self.gives((), corners, SEVEN)
        self.gives((), corners, SEVEN, most=256)
        for each in [BOW, TRIANGLE, SQUARE, NEVER, K5, K6, LINES, TORN, HEXAGON, UNLIKE]:
            self.gives(corners(each, most=1000), corners, each, most=1000)

    def test_ascending(self):
        # Shares ascend as Python compares pairs: (0, 1), (1, 1), (1, 2).
        found = corners(TRIANGLE)
        self.assertEqual(list(found), sorted(found))
        self.assertIn((HALF, ZERO, HALF, ZERO, HALF, ZERO), found)
        self.assertEqual(found[-1][0], HALF)

    def test_most(self):
        self.fails(Refused("wide"), corners, ONE, most=2)
        self.fails(Refused("wide"), corners, ONE, most=0)
        self.assertEqual(len(corners(ONE, most=3)), 3)
        self.fails(Refused("wide"), corners, BOW, most=4)
        self.assertEqual(len(corners(BOW, most=5)), 5)
        self.fails(Refused("wide"), corners, EIGHT)
        self.fails(Refused("wide"), corners, EIGHT, most=1000)
        self.assertEqual(len(corners(apart(4, 5), most=625)), 625)
        self.fails(Refused("wide"), corners, apart(4, 5), most=624)

    def test_most_on_the_way(self):
        # In between there are more corners than at the end.
        each = book("a b c\nd e f\ng h i\nj k l\na d g\nb e h")
        ways = [len(all_corners(Book(each.rooms[:many]))) for many in range(1, 7)]
        self.assertEqual(ways[:4], [3, 9, 27, 81])
        self.assertLess(ways[-1], max(ways))
        self.assertEqual(len(corners(each, most=max(ways))), ways[-1])
        self.fails(Refused("wide"), corners, each, most=max(ways) - 1)
        # A book without a weight has none, but its first rooms have many.
        many = max([len(all_corners(Book(SEVEN.rooms[:k]))) for k in range(1, 8)])
        self.gives((), corners, SEVEN, most=many)
        self.fails(Refused("wide"), corners, SEVEN, most=many - 1)

    def test_wrong_most(self):
        for value in odd_values() + [1001, -1, "200", (200,), 200.0]:
            self.fails(InvalidNumber("most"), corners, BOW, most=value)
            self.fails(InvalidNumber("most"), corners, EIGHT, most=value)


def made_weight(each, chance):
    """A weight that is a blend of some corners."""
    found = corners(each, most=1000)
    chosen = chance.sample(found, min(len(found), chance.randint(1, 4)))
    tops = [chance.randint(1, 5) for _ in chosen]
    return blended(each, tuple([(pair_of(Fraction(top, sum(tops))), one) for top, one in zip(tops, chosen)]))


class HalfTests(Case):
    def weights(self):
        chance = random.Random(2)
        for each in BOOKS:
            try:
                found = [made_weight(each, chance) for _ in range(4)]
            except Refused:
                found = []
            even = even_weight(each)
            yield each, found + [full_weight(each).weight] + ([] if even is None else [even])

    def test_halves(self):
        kinds = []
        for each, weights in self.weights():
            for weight in weights:
                found = halves(each, weight)
                kinds.append(found is None)
                self.assertEqual(found is None, by_rank(each, weight))
                self.assertIs(is_corner(each, weight), found is None)
                if found is not None:
                    one, other = found
                    self.assertNotEqual(one, other)
                    self.assertTrue(is_weight(each, one) and is_weight(each, other))
                    self.assertEqual([worth(a) + worth(b) for a, b in zip(one, other)], [2 * worth(part) for part in weight])
        self.assertGreater(kinds.count(True), 20)
        self.assertGreater(kinds.count(False), 40)

    def test_in_every_way(self):
        third = ((1, 3),) * 3
        self.gives(halves(ONE, third), halves, ONE, third)
        self.gives(None, halves, ONE, (FULL, ZERO, ZERO))
        self.gives(True, is_corner, ONE, (FULL, ZERO, ZERO))
        self.gives(False, is_corner, ONE, (HALF, HALF, ZERO))
        self.gives(((FULL, ZERO, ZERO), (ZERO, FULL, ZERO)), lambda book, weight: tuple(sorted(halves(book, weight), reverse=True)),
                   ONE, (HALF, HALF, ZERO))
        self.gives(True, is_corner, TRIANGLE, (HALF, ZERO, HALF, ZERO, HALF, ZERO))

    def test_wrong_weights(self):
        for function in (halves, is_corner, corner_blend, lambda book, weight: check_corner_blend(book, weight, None)):
            for value in odd_values():
                if not isinstance(value, tuple):
                    self.fails(InvalidWeight(-1), function, BOW, value)
                self.fails(InvalidWeight(1), function, BOW, (FULL, value) + (ZERO,) * 3)
            self.fails(InvalidWeight(4), function, BOW, (ZERO, ZERO, FULL, ZERO))
            self.fails(InvalidWeight(5), function, BOW, (ZERO, ZERO, FULL, ZERO, ZERO, ZERO))
            self.fails(InvalidWeight(7), function, BOW, (FULL, ZERO, ZERO, HALF, ZERO))
            self.fails(InvalidWeight(0), function, BOW, ((2, 2), ZERO, ZERO, FULL, ZERO))


class BlendTests(Case):
    def is_blend(self, each, weight, value):
        """Whether pairs of a fraction and a weight are such a blend, by the words."""
        if len(value) > freedom(each) + 1 or len(set([corner for _, corner in value])) < len(value):
            return False
        if any([worth(part) <= 0 or not by_rank(each, corner) for part, corner in value]):
            return False
        sums = [sum([worth(part) * worth(corner[at]) for part, corner in value]) for at in range(len(weight))]
        return sums == [worth(part) for part in weight]

    def test_blends(self):
        for each, weights in HalfTests.weights(self):
            for weight in weights:
                found = corner_blend(each, weight)
                self.assertTrue(self.is_blend(each, weight, found))
                self.assertIs(check_corner_blend(each, weight, found), True)
                self.assertIs(check_corner_blend(each, weight, found[::-1]), True)

    def test_in_every_way(self):
        self.gives(((FULL, (ZERO, FULL, ZERO)),), corner_blend, ONE, (ZERO, FULL, ZERO))
        for each in [ONE, BOW, TRIANGLE, GRID, FIVE, TWO, NEVER, LINES, PENTAGON, row_of(10), EIGHT]:
            weight = full_weight(each).weight
            self.gives(corner_blend(each, weight), corner_blend, each, weight)
            self.gives(True, check_corner_blend, each, weight, corner_blend(each, weight))

    def test_spoilt(self):
        for each in [ONE, BOW, TRIANGLE, FANO]:
            weight = full_weight(each).weight
            good = corner_blend(each, weight)
            for at, (part, corner) in enumerate(good):
                others = [(part, weight), (part, good[at - 1][1]), (part, list(corner)), (part, corner[1:]), (part, None), (ZERO, corner),
                          (pair_of(worth(part) / 2), corner), ((2 * part[0], 2 * part[1]), corner), (None, corner), (part,), part,
                          (part, corner, 0), [part, corner], ((-part[0], part[1]), corner), (float(worth(part)), corner)]
                for other in others:
                    value = good[:at] + (other,) + good[at + 1:]
                    if value != good:
                        self.gives(False, check_corner_blend, each, weight, value)
            for value in [good[1:], good + good[:1], list(good), None, (), good + ((ZERO, good[0][1]),)]:
                self.gives(False, check_corner_blend, each, weight, value)
            # The same corner twice, with half of its part each time.
            part, corner = good[0]
            half = pair_of(worth(part) / 2)
            self.gives(False, check_corner_blend, each, weight, ((half, corner), (half, corner)) + good[1:])

    def test_too_many_corners(self):
        # The middle of a square is a blend of all its four corners, but three are enough.
        each = book("a b c d\nd e f g\nc g h i")
        found = [one for one in corners(each, most=1000)]
        weight = blended(each, tuple([(pair_of(Fraction(1, len(found))), one) for one in found]))
        self.assertGreater(len(found), freedom(each) + 1)
        self.gives(False, check_corner_blend, each, weight, tuple([(pair_of(Fraction(1, len(found))), one) for one in found]))
        self.assertTrue(check_corner_blend(each, weight, corner_blend(each, weight)))
        # One more than there may be is too many, too.
        for many in (freedom(each) + 1, freedom(each) + 2):
            value = tuple([(pair_of(Fraction(1, many)), one) for one in found[:many]])
            self.gives(many < freedom(each) + 2, check_corner_blend, each, blended(each, value), value)

    def test_spoilt_in_other_ways(self):
        weight = ((1, 3), (1, 3), (1, 3))
        one, two, three = corners(ONE)
        self.gives(True, check_corner_blend, ONE, weight, (((1, 3), two), ((1, 3), one), ((1, 3), three)))
        # The fractions come to 1, but the blend is another weight.
        self.gives(False, check_corner_blend, ONE, weight, (((1, 2), two), ((1, 6), one), ((1, 3), three)))
        self.gives(False, check_corner_blend, ONE, weight, ((HALF, two), (HALF, one)))
        # A fraction of 0 changes no blend, but it is not above 0.
        self.gives(True, check_corner_blend, ONE, one, ((FULL, one),))
        self.gives(False, check_corner_blend, ONE, one, ((FULL, one), (ZERO, two)))
        # A blend of weights that are no corners.
        self.gives(False, check_corner_blend, ONE, weight, ((FULL, weight),))
        self.gives(False, check_corner_blend, ONE, weight, (((1, 3), one), ((2, 3), (ZERO, HALF, HALF))))

    def test_any_value(self):
        weight = even_weight(BOW)
        good = corner_blend(BOW, weight)
        for value in odd_values():
            self.gives(False, check_corner_blend, BOW, weight, value)
            self.gives(False, check_corner_blend, BOW, weight, (value,) + good[1:])
            self.gives(False, check_corner_blend, BOW, weight, ((value, good[0][1]),) + good[1:])
            self.gives(False, check_corner_blend, BOW, weight, ((good[0][0], value),) + good[1:])


if __name__ == "__main__":
    unittest.main()
