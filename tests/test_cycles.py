"""Books of one ring: the opening of chapter 15, point [94]."""

import random
import unittest
from fractions import Fraction
from itertools import combinations

from common import Case, odd_values
from oracle import rings, settings
from samples import (BOW, FANO, FIVE, GRID, HEXAGON, LARGE, MIDDLE, ONE, PENTAGON, SMALL, SQUARE, TAILED, TORN, TRIANGLE, TWO,
                     UNLIKE, book, made_books, ring_of, star)
from roomlooks.bounds import greatest_total, least_total
from roomlooks.cycles import half_weight, ring_blend, ring_blend_holds, ring_book, ring_settings, ring_sizes
from roomlooks.errors import InvalidNumber, InvalidWeight, Refused
from roomlooks.settings import count_settings
from roomlooks.texts import read_book
from roomlooks.weights import blended, check_weight, even_weight

SIZES = [(3, 3, 3), (3, 4, 5), (5, 5, 5), (3, 3, 3, 3), (5, 3, 4, 3), (3,) * 5, (4, 3, 3, 5, 3), (3,) * 6, (4,) * 8, (3,) * 7,
         (3,) * 10, (5,) * 6, (3, 4) * 4, (4, 4, 3, 3, 3, 3, 3, 3, 3, 3), (5, 4, 3, 5, 4, 3, 3)]
# The rooms of a ring, but in another sequence.
TWISTED = book("a b c\ne f g\nc d e\na x g h")


def is_ring_book(each):
    """Whether all rooms stand in one ring, by the words."""
    many = len(each.rooms)
    if many < 3 or many > 7:
        return False
    found = rings(each.rooms, many)
    if len(found) != 1 or sorted([name for _, name in found[0]]) != list(each.shared()):
        return False
    return all([len(each.rooms_of(name)) == 2 for name in each.shared()])


def is_blend(each, weight, value):
    lots = [lot for _, lot in settings(each.rooms)]
    if any([lot not in lots or part <= 0 for part, lot in value]) or len(set([lot for _, lot in value])) < len(value):
        return False
    sums = [sum([part for part, lot in value if name in lot]) for name in each.outcomes()]
    return sums == [Fraction(*part) for part in weight]


def plain_blend(value):
    return [(Fraction(*part), lot) for part, lot in value]


def weights_of(each, chance):
    """Weights of a ring book: corners, blends, even ones, and one with as much as can be at shared outcomes."""
    ones = tuple([1 if name in each.shared() else 0 for name in each.outcomes()])
    found = [half_weight(each), greatest_total(each, ones).weight, least_total(each, ones).weight]
    for _ in range(3):
        found.append(least_total(each, tuple([chance.randint(-5, 5) for _ in ones])).weight)
    found += [blended(each, (((1, 3), found[0]), ((2, 3), found[3]))), blended(each, (((5, 7), found[4]), ((2, 7), found[1])))]
    for _ in range(2):
        # Shares of all sizes, also of outcomes that just one room has.
        corners = [least_total(each, tuple([chance.randint(-9, 9) for _ in ones])).weight for _ in range(5)]
        found.append(blended(each, tuple(zip([(1, 11), (2, 11), (1, 11), (4, 11), (3, 11)], corners))))
    return found + ([even_weight(each)] if even_weight(each) else [])


class SizeTests(Case):
    def test_sizes(self):
        for sizes in SIZES:
            each = ring_book(sizes)
            self.assertEqual(ring_sizes(each), sizes)
            self.assertEqual(tuple([len(room) for room in each.rooms]), sizes)
            for at, room in enumerate(each.rooms):
                self.assertEqual(len(set(room) & set(each.rooms[at - 1])), 1)
            self.assertTrue(len(sizes) > 7 or is_ring_book(each))
            self.assertEqual(len(each.outcomes()), sum(sizes) - len(sizes))

    def test_other_books(self):
        many = 0
        for each in SMALL + MIDDLE + made_books(53, 60, 7) + [TWISTED]:
            self.assertEqual(ring_sizes(each) is not None, is_ring_book(each))
            many += ring_sizes(each) is not None
        self.assertGreater(many, 4)
        for each in [ONE, TWO, BOW, star(3), FANO, GRID, TAILED, TORN, FIVE, UNLIKE, LARGE[0], LARGE[2],
                     book("a b c\nc d e\ne f a\nx y z"), book("a b c\nc d e\ne f a\nx y z\nz v w\nw u x"),
                     book("a b c d\nd e f\na f g\nc h i\ni j b")]:
            self.gives(None, ring_sizes, each)
            self.fails(Refused("ring"), half_weight, each)
            self.fails(Refused("ring"), ring_blend, each, None)
            self.fails(Refused("ring"), ring_blend_holds, each, None, None)

    def test_in_every_way(self):
        self.gives((3, 3, 3), ring_sizes, TRIANGLE)
        self.gives((3, 3, 3, 4), ring_sizes, TWISTED)
        self.gives((3, 3, 5, 4), ring_sizes, book("a b c\nc d e\na h i j\ne f g j k"))
        self.gives((3,) * 10, ring_sizes, ring_of(10))
        for sizes in SIZES:
            self.gives(ring_book(sizes), ring_book, sizes)
            self.gives(ring_settings(sizes), ring_settings, sizes)
        self.assertIsNotNone(ring_sizes(read_book("a b c\nc d e\ne f a")))

    def test_most_outcomes(self):
        self.assertEqual(len(ring_book((5,) * 6).outcomes()), 24)
        self.assertEqual(len(ring_book((4,) * 8).outcomes()), 24)
        for sizes in [(5,) * 7, (5, 5, 5, 5, 5, 5, 3), (4,) * 9, (5, 4, 4, 4, 4, 4, 4, 4), (5,) * 10]:
            self.fails(Refused("wide"), ring_book, sizes)
            self.assertGreater(ring_settings(sizes), 0)

    def test_wrong_sizes(self):
        for value in odd_values() + [(3, 3), (3,) * 11, (2, 3, 3), (3, 3, 6), [3, 3, 3], (3, 3, True), (3, 3, 3.0), "333", 3,
                                     (5,) * 11, (3, 3, "3"), (6,) * 10]:
            self.fails(InvalidNumber("sizes"), ring_book, value)
            self.fails(InvalidNumber("sizes"), ring_settings, value)
            if value != 3:
                self.fails(InvalidNumber("sizes"), ring_book, (3, 3, value))

    def test_settings(self):
        self.gives(11, ring_settings, (3, 3, 3, 3, 3))
        self.assertEqual([ring_settings((3,) * many) for many in range(3, 9)], [4, 7, 11, 18, 29, 47])
        for sizes in SIZES:
            self.assertEqual(ring_settings(sizes), count_settings(ring_book(sizes)))
            self.assertEqual(ring_settings(sizes), ring_settings(sizes[1:] + sizes[:1]))


class BlendTests(Case):
    def test_blends(self):
        chance, kinds = random.Random(1), []
        for each in [ring_book(sizes) for sizes in SIZES] + [TWISTED, TRIANGLE, PENTAGON]:
            many = len(each.rooms)
            for weight in weights_of(each, chance):
                check_weight(each, weight)
                found = ring_blend(each, weight)
                total = sum([Fraction(*part) for part, name in zip(weight, each.outcomes()) if name in each.shared()])
                self.assertEqual(found is not None, many % 2 == 0 or 2 * total <= many - 1)
                kinds.append(found is None)
                if found is not None:
                    self.assertIs(ring_blend_holds(each, weight, found), True)
                    self.assertIs(ring_blend_holds(each, weight, found[::-1]), True)
                    if len(each.rooms) < 7:
                        self.assertTrue(is_blend(each, weight, plain_blend(found)))
        self.assertGreater(kinds.count(True), 5)
        self.assertGreater(kinds.count(False), 50)

    def test_half_weights(self):
        for sizes in SIZES:
            each = ring_book(sizes)
            wanted = tuple([(1, 2) if name in each.shared() else (0, 1) for name in each.outcomes()])
            self.gives(wanted, half_weight, each)
            self.gives(None, check_weight, each, wanted)
            self.assertEqual(ring_blend(each, wanted) is None, len(sizes) % 2 == 1)

    def test_in_every_way(self):
        five = ring_book((3, 3, 3, 3, 3))
        self.gives(None, ring_blend, five, half_weight(five))
        self.gives(False, ring_blend_holds, five, half_weight(five), None)
        for each in [TRIANGLE, SQUARE, five, HEXAGON, ring_of(10), TWISTED]:
            for weight in [even_weight(each), half_weight(each)]:
                if weight is not None:
                    found = ring_blend(each, weight)
                    self.gives(found, ring_blend, each, weight)
                    self.gives(found is not None, ring_blend_holds, each, weight, found)

    def test_blends_of_settings(self):
        for each in [TRIANGLE, PENTAGON, ring_book((4, 3, 5))]:
            for _, lot in settings(each.rooms):
                weight = tuple([(1, 1) if name in lot else (0, 1) for name in each.outcomes()])
                self.gives((((1, 1), lot),), ring_blend, each, weight)
                self.gives(True, ring_blend_holds, each, weight, (((1, 1), lot),))

    def test_wrong_weights(self):
        for value in odd_values():
            at = 0 if isinstance(value, tuple) else -1
            self.fails(InvalidWeight(at), ring_blend, TRIANGLE, value)
            self.fails(InvalidWeight(at), ring_blend_holds, TRIANGLE, value, None)
            self.fails(Refused("ring"), ring_blend, BOW, value)
        for function, more in [(ring_blend, ()), (ring_blend_holds, ((),))]:
            self.fails(InvalidWeight(7), function, TRIANGLE, ((0, 1),) * 6, *more)
            self.fails(InvalidWeight(6), function, TRIANGLE, ((0, 1),) * 7, *more)
            self.fails(InvalidWeight(5), function, TRIANGLE, ((0, 1),) * 5, *more)

    def test_spoilt(self):
        for each in [TRIANGLE, SQUARE, PENTAGON, ring_book((3, 4, 5))]:
            weight = least_total(each, tuple([3 * k % 5 for k in range(len(each.outcomes()))])).weight
            weight = blended(each, (((1, 2), weight), ((1, 2), greatest_total(each, (1,) + (0,) * (len(weight) - 1)).weight)))
            good = ring_blend(each, weight)
            lots = [lot for _, lot in settings(each.rooms)]
            self.assertTrue(is_blend(each, weight, plain_blend(good)))
            for at, (part, lot) in enumerate(good):
                others = [(part, lots[0]), (part, lots[-1]), ((part[0], part[1] + 1), lot), ((-part[0], part[1]), lot), ((0, 1), lot),
                          (part, lot[1:]), (part, list(lot)), [part, lot], (part, lot, 1), (part,), (lot, part), None,
                          ((2 * part[0], 2 * part[1]), lot), (1, lot), (part, lot[::-1]), (part, lot + ("z",))]
                for other in others:
                    value = good[:at] + (other,) + good[at + 1:]
                    wanted = other == (part, lot)
                    self.gives(wanted, ring_blend_holds, each, weight, value)
                half = (part[0], 2 * part[1]) if part[0] % 2 else (part[0] // 2, part[1])
                self.gives(False, ring_blend_holds, each, weight, good[:at] + ((half, lot), (half, lot)) + good[at + 1:])
                self.gives(False, ring_blend_holds, each, weight, good[:at] + good[at + 1:])
            self.gives(False, ring_blend_holds, each, weight, list(good))
            self.gives(False, ring_blend_holds, each, half_weight(each), good)

    def test_fractions_not_above_0(self):
        good = ring_blend(SQUARE, even_weight(SQUARE))
        lots = [lot for _, lot in settings(SQUARE.rooms)]
        unused = [lot for lot in lots if lot not in [used for _, used in good]][0]
        self.gives(False, ring_blend_holds, SQUARE, even_weight(SQUARE), good + (((0, 1), unused),))
        # Two settings that have together the outcomes of two others: the one less the other two is a weight.
        fours = [(a, b, c, d) for a, b in combinations(lots, 2) for c, d in combinations(lots, 2)
                 if sorted(a + b) == sorted(c + d) and a not in (c, d)]
        one, other, third, fourth = fours[0]
        weight = tuple([(1, 1) if name in fourth else (0, 1) for name in SQUARE.outcomes()])
        value = (((1, 1), one), ((1, 1), other), ((-1, 1), third))
        self.gives(False, ring_blend_holds, SQUARE, weight, value)
        self.gives(True, ring_blend_holds, SQUARE, weight, (((1, 1), fourth),))

    def test_any_value(self):
        weight = even_weight(TRIANGLE)
        good = ring_blend(TRIANGLE, weight)
        for value in odd_values():
            self.gives(False, ring_blend_holds, TRIANGLE, weight, value)
            self.gives(False, ring_blend_holds, TRIANGLE, weight, (value,) + good[1:])
            self.gives(False, ring_blend_holds, TRIANGLE, weight, ((value, good[0][1]),) + good[1:])
            self.gives(False, ring_blend_holds, TRIANGLE, weight, ((good[0][0], value),) + good[1:])
        self.gives(True, ring_blend_holds, TRIANGLE, weight, good)


if __name__ == "__main__":
    unittest.main()
