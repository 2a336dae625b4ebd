"""Enough weights: points [59] and [60]."""

import unittest

from common import Case, Thing, odd_values
from oracle import Model, rings, short_rings_of
from samples import (BOW, EIGHT, FANO, FIVE, FIVES, GRID, HEXAGON, K5, LARGE, LINES, MIDDLE, ONE, PENTAGON, SMALL, SQUARE, TORN, TRIANGLE,
                     TWO, apart, book, made_books, made_houses, ring_of, row_of, star)
from test_bounds import NEVER, NEVERS, SEVEN, worth
from test_parted import crucial, crucial_pairs, is_never
from roomlooks.bounds import greatest_total, never
from roomlooks.enough import Enough, Lacking, check_enough, enough_weights, unparted_lots
from roomlooks.full import least_full
from roomlooks.parted import Ahead, compare_shares
from roomlooks.texts import read_book
from roomlooks.trees import extra_shares
from roomlooks.weights import check_some, some_weight

# A house of ten rooms: four rooms have the twelve outcomes that they share with the six others.
PETERSEN = least_full(3, 5)
K4 = book("a b c\nc d e\ne f a\nb d f")
BOOKS = SMALL + MIDDLE + [NEVER, NEVERS, SEVEN, LINES, PETERSEN, K4] + made_books(82, 25) + made_houses(83, 6, 8)


def parts(each, weight, lot):
    total = sum([worth(part) for name, part in zip(each.outcomes(), weight) if name in lot])
    return 2 * total > 1 if len(lot) == 1 else total > 1


def unparted(each):
    """The crucial lots that no weight parts, by the greatest totals."""
    if not isinstance(some_weight(each), tuple):
        return crucial(each)
    found = []
    for lot in crucial(each):
        most = worth(greatest_total(each, tuple([int(name in lot) for name in each.outcomes()])).value)
        if not (2 * most > 1 if len(lot) == 1 else most > 1):
            found.append(lot)
    return tuple(found)


class EnoughTests(Case):
    def test_classes(self):
        self.assertEqual(vars(Enough(1)), {"weights": 1})
        self.assertEqual(vars(Enough(weights=None)), {"weights": None})
        self.assertEqual(vars(Lacking(1, 2, 3, 4)), {"one": 1, "other": 2, "numbers": 3, "bottom": 4})
        self.assertEqual(vars(Lacking(one=None, other=(), numbers=[], bottom="a")), {"one": None, "other": (), "numbers": [], "bottom": "a"})

    def test_one_of_both(self):
        kinds = []
        for each in BOOKS + LARGE:
            found, left = enough_weights(each), unparted_lots(each)
            kinds.append(type(found))
            self.assertEqual(isinstance(found, Enough), left == ())
            if isinstance(found, Enough):
                self.assertTrue(all([check_some(each, weight) for weight in found.weights]))
                self.assertTrue(all([any([parts(each, weight, lot) for weight in found.weights]) for lot in crucial(each)]))
            else:
                model = Model(each.rooms)
                self.assertFalse(model.implies(found.one, found.other))
                self.assertTrue(is_never(each, found.one, found.other, found.numbers, found.bottom))
            self.assertIs(check_enough(each, found), True)
        self.assertGreater(kinds.count(Enough), 20)
        self.assertGreater(kinds.count(Lacking), 8)

    def test_unparted_lots(self):
        for each in BOOKS:
            self.assertEqual(unparted_lots(each), unparted(each))

    def test_enough_exactly_if_implying_is_told(self):
        for each in [ONE, BOW, TRIANGLE, SQUARE, K4, TWO, GRID] + made_books(84, 6, 4):
            model = Model(each.rooms)
            if len(model.sayings) > 45:
                continue
            told = all([model.implies(a, b) or isinstance(compare_shares(each, a, b), Ahead) for a in model.sayings for b in model.sayings])
            self.assertEqual(isinstance(enough_weights(each), Enough), told)

    def test_crucial_pairs(self):
        # A weight gives the first of two such sayings more exactly if it parts their lot.
        for each in [BOW, TRIANGLE, K4, SQUARE, NEVER]:
            model, left = Model(each.rooms), unparted_lots(each)
            ahead = [isinstance(compare_shares(each, one, other), Ahead) for one, other in crucial_pairs(each, model)]
            self.assertEqual(all(ahead), left == ())

    def test_books_with_enough(self):
        own = book("a b c x\na d e y\nb d f z\nc e f w")
        for each in SMALL + BOOKS + [own]:
            few = len(each.rooms) <= 3 or (len(each.rooms) == 4 and not rings(each.rooms, 3))
            alone = all([any([len(each.rooms_of(name)) == 1 for name in room]) for room in each.rooms])
            if few or alone or extra_shares(each) == 0:
                self.assertIsInstance(enough_weights(each), Enough)
        self.assertIsInstance(enough_weights(own), Enough)

    def test_books_without_enough(self):
        for each in [K4, FANO, SEVEN, NEVER, PETERSEN]:
            self.assertIsInstance(enough_weights(each), Lacking)
        self.assertEqual(short_rings_of(PETERSEN.rooms), ())
        self.assertEqual(unparted_lots(SEVEN), crucial(SEVEN))
        for name in never(NEVER):
            self.assertIn((name,), unparted_lots(NEVER))

    def test_example(self):
        each = read_book("a b c\nc d e\ne f a\nb d f")
        self.gives((("a", "b", "f"), ("a", "c", "e"), ("b", "c", "d"), ("d", "e", "f")), unparted_lots, each)

    def test_in_every_way(self):
        for each in [ONE, BOW, TRIANGLE, K4, K5, SEVEN, NEVER, PETERSEN, EIGHT, LINES, FIVES, FIVE, ring_of(10), row_of(10), star(10), apart(4, 5)]:
            self.gives(enough_weights(each), enough_weights, each)
            self.gives(unparted_lots(each), unparted_lots, each)
            self.gives(True, check_enough, each, enough_weights(each))
        for each in [HEXAGON, PENTAGON, TORN]:
            self.gives(unparted(each), unparted_lots, each)


class CheckTests(Case):
    def test_spoilt_weights(self):
        for each in [ONE, BOW, TRIANGLE, PENTAGON]:
            good = enough_weights(each).weights
            for at, weight in enumerate(good):
                for other in [weight[1:], list(weight), None, weight + ((0, 1),), weight[::-1], ((2, 2),) + weight[1:]]:
                    value = good[:at] + (other,) + good[at + 1:]
                    if other != weight and not (type(other) is tuple and check_some(each, other)):
                        self.gives(False, check_enough, each, Enough(value))
                rest = good[:at] + good[at + 1:]
                wanted = all([any([parts(each, one, lot) for one in rest]) for lot in crucial(each)])
                self.gives(wanted, check_enough, each, Enough(rest))
            for value in [list(good), None, (), good[0]]:
                self.gives(False, check_enough, each, Enough(value))
            self.gives(True, check_enough, each, Enough(good[::-1] + good))
        half = ((1, 2), (1, 2), (0, 1))
        corners = [((1, 1), (0, 1), (0, 1)), ((0, 1), (1, 1), (0, 1)), ((0, 1), (0, 1), (1, 1))]
        # One half is not more than 1/2.
        self.gives(False, check_enough, ONE, Enough((half, half, corners[2])))
        self.gives(False, check_enough, ONE, Enough((half, corners[0], corners[2])))
        self.gives(True, check_enough, ONE, Enough(tuple(corners)))

    def test_lacking_of_every_lot(self):
        for each in [K4, FANO, NEVER, SEVEN]:
            model = Model(each.rooms)
            for one, other in crucial_pairs(each, model):
                found = compare_shares(each, one, other)
                if not isinstance(found, Ahead):
                    self.gives(True, check_enough, each, Lacking(one, other, found.numbers, found.bottom))

    def test_spoilt_lacking(self):
        for each in [K4, NEVER, SEVEN]:
            good, model = enough_weights(each), Model(each.rooms)
            for name in ("one", "other"):
                for saying in model.sayings:
                    value = Lacking(**{**vars(good), name: saying})
                    wanted = not model.implies(value.one, value.other)
                    wanted = wanted and is_never(each, value.one, value.other, value.numbers, value.bottom)
                    self.assertIs(check_enough(each, value), wanted)
                for other in [None, list(good.one), ("z",), "a", good.one[::-1] + good.one]:
                    self.gives(False, check_enough, each, Lacking(**{**vars(good), name: other}))
            for at in range(len(each.rooms)):
                for step in (-1, 1):
                    numbers = good.numbers[:at] + (good.numbers[at] + step,) + good.numbers[at + 1:]
                    wanted = is_never(each, good.one, good.other, numbers, good.bottom)
                    self.gives(wanted, check_enough, each, Lacking(good.one, good.other, numbers, good.bottom))
            for numbers in [good.numbers[1:], good.numbers + (0,), list(good.numbers), None, ()]:
                self.gives(False, check_enough, each, Lacking(good.one, good.other, numbers, good.bottom))
            for bottom in [0, -1, None, True, 1.0, "1"]:
                self.gives(False, check_enough, each, Lacking(good.one, good.other, good.numbers, bottom))
        # Numbers may show it, though the first saying implies the second one.
        self.gives(False, check_enough, BOW, Lacking(("a",), ("a", "b"), (0, 0), 1))

    def test_any_value(self):
        good, lacking = enough_weights(BOW), enough_weights(K4)
        for value in odd_values() + [Thing(**vars(good)), Thing(**vars(lacking)), good.weights]:
            self.gives(False, check_enough, BOW, value)
            self.gives(False, check_enough, K4, value)
            if value != good.weights:
                self.gives(False, check_enough, BOW, Enough(value))
            self.gives(False, check_enough, BOW, Enough(good.weights + (value,)))
            for name in vars(lacking):
                self.gives(False, check_enough, K4, Lacking(**{**vars(lacking), name: value}) if value != 10 ** 30 else None)


if __name__ == "__main__":
    unittest.main()
