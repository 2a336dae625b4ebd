"""Two sayings compared, and crucial lots: the opening of chapter 10, points [58] and [59]."""

import random
import unittest
from fractions import Fraction
from itertools import combinations

from common import Case, Thing, odd_values
from oracle import Model, rings
from samples import (BOW, FANO, FIVE, FIVES, GRID, HEXAGON, K5, LARGE, LINES, MIDDLE, ONE, PENTAGON, SMALL, SQUARE, TORN, TRIANGLE, TWO,
                     UNLIKE, book, made_books)
from test_bounds import NEVER, NEVERS, SEVEN, plain_enough, sums_of, worth
from roomlooks.bounds import Least, least_total
from roomlooks.errors import InvalidSaying
from roomlooks.parted import Ahead, NeverAhead, check_comparison, compare_shares, crucial_lots
from roomlooks.weights import check_some, even_weight, share

# A book without a weight in which outcomes belong to one room alone.
EIGHTH = book("a b c d z\ne f g h\ni j k l\na e i\nb f j\nc g k\nd h l\na x y")
NINTH = book("a b c d\ne f g h\ni j k l\na e i\nb f j\nc g k\nd h l\nm n o")
BOOKS = SMALL + MIDDLE + [NEVER, NEVERS, SEVEN, EIGHTH, NINTH, LINES] + made_books(81, 20)


def factors_for(each, one, other):
    return [(name in one) - (name in other) for name in each.outcomes()]


def is_never(each, one, other, numbers, bottom):
    """Whether numbers of the right kinds show that no weight gives the first saying more, by the words."""
    if len(numbers) != len(each.rooms) or bottom < 1 or sum(numbers) > 0:
        return False
    return all([total >= bottom * factor for total, factor in zip(sums_of(each, numbers), factors_for(each, one, other))])


def crucial(each):
    """The crucial lots, by the words."""
    names = each.outcomes()
    singles = [(name,) for name in names]
    pairs = [pair for pair in combinations(names, 2) if not any([set(pair) <= set(room) for room in each.rooms])]
    threes = sorted(set([tuple(sorted([name for _, name in ring])) for ring in rings(each.rooms, 3)]))
    return tuple(singles + pairs + threes)


class CompareTests(Case):
    def test_classes(self):
        self.assertEqual(vars(Ahead(1)), {"weight": 1})
        self.assertEqual(vars(Ahead(weight=None)), {"weight": None})
        self.assertEqual(vars(NeverAhead(1, 2)), {"numbers": 1, "bottom": 2})
        self.assertEqual(vars(NeverAhead(numbers=(), bottom=None)), {"numbers": (), "bottom": None})

    def test_one_of_both(self):
        chance, kinds, unlike = random.Random(1), [], 0
        for each in BOOKS:
            model = Model(each.rooms)
            for _ in range(25):
                one, other = chance.choice(model.sayings), chance.choice(model.sayings)
                found = compare_shares(each, one, other)
                kinds.append(type(found))
                if isinstance(found, Ahead):
                    self.assertTrue(check_some(each, found.weight))
                    self.assertGreater(worth(share(each, found.weight, one)), worth(share(each, found.weight, other)))
                    self.assertFalse(model.implies(one, other))
                else:
                    self.assertTrue(is_never(each, one, other, found.numbers, found.bottom))
                    unlike += not model.implies(one, other)
                self.assertIs(check_comparison(each, one, other, found), True)
        self.assertGreater(kinds.count(Ahead), 200)
        self.assertGreater(kinds.count(NeverAhead), 100)
        # Also where the first does not imply the second.
        self.assertGreater(unlike, 20)

    def test_in_every_way(self):
        for each, one, other in [(ONE, ("a",), ("b",)), (BOW, ("a",), ("a", "b")), (BOW, ("a",), ("c", "d")), (SEVEN, ("a",), ("b",)),
                                 (SEVEN, (), ("b",)), (NEVER, ("x",), ()), (TRIANGLE, ("a", "c"), ("c", "d")), (UNLIKE, ("d",), ("c",))]:
            found = compare_shares(each, one, other)
            self.gives(found, compare_shares, each, one, other)
            self.gives(True, check_comparison, each, one, other, found)
        self.assertIsInstance(compare_shares(NEVER, ("x",), ()), NeverAhead)
        self.assertIsInstance(compare_shares(SEVEN, ("a", "b", "c", "d"), ()), NeverAhead)
        self.assertIsInstance(compare_shares(BOW, ("a",), ("c", "d")), Ahead)
        self.gives(True, check_comparison, BOW, ("a",), ("a", "b"), NeverAhead((0, 0), 1))

    def test_books_without_a_weight(self):
        for each in (SEVEN, EIGHTH, NINTH):
            model = Model(each.rooms)
            for one in model.sayings:
                for other in model.sayings[::3]:
                    found = compare_shares(each, one, other)
                    self.assertTrue(is_never(each, one, other, found.numbers, found.bottom))
                    self.assertTrue(check_comparison(each, one, other, found))

    def test_all_rows_of_numbers(self):
        for each in [ONE, BOW, TRIANGLE]:
            model, passed = Model(each.rooms), 0
            rows = [(0,) * len(each.rooms)]
            for at in range(len(each.rooms)):
                rows = [row[:at] + (number,) + row[at + 1:] for row in rows for number in (-2, -1, 0, 1, 2)]
            for one in model.sayings[::3]:
                for other in model.sayings[::4]:
                    for numbers in rows:
                        for bottom in (0, 1, 2):
                            wanted = is_never(each, one, other, numbers, bottom)
                            passed += wanted
                            self.assertIs(check_comparison(each, one, other, NeverAhead(numbers, bottom)), wanted)
            self.assertGreater(passed, 0)

    def test_spoilt(self):
        weight = even_weight(BOW)
        self.gives(True, check_comparison, BOW, ("a", "b"), ("d",), Ahead(weight))
        self.gives(False, check_comparison, BOW, ("a",), ("d",), Ahead(weight))
        self.gives(False, check_comparison, BOW, ("d",), ("a", "b"), Ahead(weight))
        for value in [weight[1:], list(weight), weight + ((0, 1),), None, (), ((2, 6),) + weight[1:], ((1, 2),) + weight[1:]]:
            self.gives(False, check_comparison, BOW, ("a", "b"), ("d",), Ahead(value))
        good = compare_shares(NEVER, ("x",), ())
        numbers, bottom = good.numbers, good.bottom
        for other in [numbers[1:], numbers + (0,), list(numbers), None, (), (0,) * 6, tuple([number + 0.5 for number in numbers])]:
            self.gives(False, check_comparison, NEVER, ("x",), (), NeverAhead(other, bottom))
        for other in [0, -bottom, None, str(bottom), bottom + 0.5, float(bottom), True, 10 ** 9]:
            self.gives(False, check_comparison, NEVER, ("x",), (), NeverAhead(numbers, other))
        for at in range(6):
            for step in (-1, 1):
                value = numbers[:at] + (numbers[at] + step,) + numbers[at + 1:]
                self.gives(is_never(NEVER, ("x",), (), value, bottom), check_comparison, NEVER, ("x",), (), NeverAhead(value, bottom))

    def test_any_value(self):
        ahead, never = compare_shares(BOW, ("a",), ("b",)), compare_shares(BOW, ("a",), ("a", "b"))
        for value in odd_values() + [Thing(**vars(ahead)), Thing(**vars(never))]:
            self.gives(False, check_comparison, BOW, ("a",), ("b",), value)
            self.gives(False, check_comparison, BOW, ("a",), ("b",), Ahead(value))
            self.gives(False, check_comparison, BOW, ("a",), ("b",), Ahead((value,) + ahead.weight[1:]))
            self.gives(False, check_comparison, BOW, ("a",), ("a", "b"), NeverAhead(value, 1))
            if value != 10 ** 30:
                self.gives(False, check_comparison, BOW, ("a",), ("a", "b"), NeverAhead((0, 0), value))
            if value != -1:
                self.gives(False, check_comparison, BOW, ("a",), ("a", "b"), NeverAhead((0, value), 1))

    def test_wrong_sayings(self):
        for each in (BOW, SEVEN):
            for value in odd_values():
                if not isinstance(value, tuple):
                    self.fails(InvalidSaying(-1), compare_shares, each, value, None)
                    self.fails(InvalidSaying(-1), compare_shares, each, ("a",), value)
                    self.fails(InvalidSaying(-1), check_comparison, each, value, None, None)
                self.fails(InvalidSaying(1), compare_shares, each, ("a", value), value)
                self.fails(InvalidSaying(1), compare_shares, each, (), ("a", value))
                self.fails(InvalidSaying(1), check_comparison, each, (), ("a", value), None)
                self.fails(InvalidSaying(1), check_comparison, each, ("a", value), (), None)
        self.fails(InvalidSaying(2), compare_shares, BOW, ("d", "e"), ("z",))

    def test_against_the_least_total(self):
        # The numbers of a NeverAhead, turned, show that the least total of the turned factors is 0 or more.
        for each in [BOW, UNLIKE, NEVER, FANO]:
            model = Model(each.rooms)
            for one in model.sayings[::5]:
                for other in model.sayings[::7]:
                    turned = tuple([-factor for factor in factors_for(each, one, other)])
                    low = least_total(each, turned)
                    self.assertTrue(plain_enough(each, Least(**vars(low))))
                    self.assertEqual(isinstance(compare_shares(each, one, other), Ahead), Fraction(*low.value) < 0)


class CrucialTests(Case):
    def test_crucial_lots(self):
        for each in BOOKS + LARGE:
            self.assertEqual(crucial_lots(each), crucial(each))

    def test_in_every_way(self):
        self.gives((("a",), ("b",), ("c",)), crucial_lots, ONE)
        self.gives((("a",), ("b",), ("c",), ("d",), ("e",), ("a", "d"), ("a", "e"), ("b", "d"), ("b", "e")), crucial_lots, BOW)
        self.assertEqual(crucial_lots(TRIANGLE)[-1], ("a", "c", "e"))
        for each in [TRIANGLE, GRID, K5, TORN, TWO, PENTAGON, HEXAGON, SQUARE, FIVE, FIVES]:
            self.gives(crucial_lots(each), crucial_lots, each)

    def test_where_going_down_and_up_ends(self):
        # Each pair of sayings of which the first does not imply the second leads to a crucial one.
        for each in SMALL + [book("a b c d\nd e f\na f g"), FANO]:
            model = Model(each.rooms)
            ends = set()
            for one in model.sayings:
                for other in model.sayings:
                    if not model.implies(one, other):
                        ends.add(end_of_pair(model, one, other))
            self.assertTrue(ends <= set(crucial_pairs(each, model)))


def crucial_pairs(each, model):
    """The pairs of sayings of point [59], for the crucial lots."""
    found = []
    for lot in crucial(each):
        if len(lot) == 3:
            for at in range(3):
                p, q, r = lot[at], lot[at - 1], lot[at - 2]
                room = each.room_of_two(p, r)
                two = model.saying(room, tuple(sorted((p, r))))
                found += [(two, model.opposite((q,))), ((q,), model.opposite(two))]
        else:
            found += [((p,), model.opposite((q,))) for p, q in {(lot[0], lot[-1]), (lot[-1], lot[0])}]
    return found


def end_of_pair(model, one, other):
    """Down from the first and up from the other as long as the first does not imply the other."""
    while True:
        steps = [(low, other) for low in model.down(one) if low != one and not model.implies(low, other)]
        steps += [(one, high) for high in model.up(other) if high != other and not model.implies(one, high)]
        if not steps:
            return (one, other)
        one, other = steps[0]


if __name__ == "__main__":
    unittest.main()
