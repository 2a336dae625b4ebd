"""Books that are alike: point [41]."""

import random
import unittest
from itertools import permutations

from common import Case, Thing, odd_values, plain
from oracle import rings
from samples import (BOW, EIGHT, FANO, FIVE, FIVES, GRID, HEXAGON, K5, K6, LARGE, LINES, MIDDLE, ONE, PENTAGON, PIECES, SMALL, SQUARE,
                     TAILED, TORN, TRIANGLE, TWO, UNLIKE, apart, book, made_books, made_houses, pairs_book, plane, ring_of, row_of, star)
from roomlooks.alike import alike, carries, one_form, order_alike
from roomlooks.books import Book, renamed
from roomlooks.errors import Refused
from roomlooks.sayings import count_sayings
from roomlooks.texts import read_book
from roomlooks.told import Order, order_of

BOOKS = SMALL + MIDDLE + made_books(68, 30, 7) + made_houses(69, 5, 7)
# Graphs of ten points with three lines at each: books with as many rooms and outcomes, of one size.
PRISM = [(k, (k + 1) % 5) for k in range(5)] + [(5 + k, 5 + (k + 1) % 5) for k in range(5)] + [(k, 5 + k) for k in range(5)]
PETERSEN = [(k, (k + 1) % 5) for k in range(5)] + [(5 + k, 5 + (k + 2) % 5) for k in range(5)] + [(k, 5 + k) for k in range(5)]
LADDER = [(k, (k + 1) % 10) for k in range(10)] + [(k, k + 5) for k in range(5)]
CUBIC = [pairs_book(10, pairs) for pairs in (PRISM, PETERSEN, LADDER)]


def another(each, chance):
    """A book alike to a book, with other names and the rooms in another sequence."""
    names = list(each.outcomes())
    new = chance.sample([a + b for a in "abcdefg" for b in ["", "x", "y", "zzz"]], len(names))
    rooms = list(renamed(each, dict(zip(names, new))).rooms)
    chance.shuffle(rooms)
    return Book(tuple(rooms))


def is_carried(each, other, names):
    """Whether a dict carries a book onto another one, by the words."""
    if sorted(names) != list(each.outcomes()) or len(set(names.values())) < len(names):
        return False
    return {frozenset([names[name] for name in room]) for room in each.rooms} == {frozenset(room) for room in other.rooms}


def some_carrying(each, other):
    """Whether some dict carries, by all sequences of the rooms of small books."""
    if len(each.rooms) != len(other.rooms) or len(each.outcomes()) != len(other.outcomes()):
        return False
    wanted = sorted([tuple([number for number, room in enumerate(other.rooms) if name in room]) for name in other.outcomes()])
    for to in permutations(range(len(each.rooms))):
        homes = [tuple(sorted([to[number] for number in each.rooms_of(name)])) for name in each.outcomes()]
        if sorted(homes) == wanted:
            return True
    return False


class CarryTests(Case):
    def test_all_dicts(self):
        for each, other in [(ONE, ONE), (ONE, book("x y z")), (ONE, BOW), (BOW, BOW), (BOW, book("a b c\na d e")), (TWO, BOW)]:
            passed = 0
            for names in permutations(other.outcomes(), min(len(each.outcomes()), len(other.outcomes()))):
                table = dict(zip(each.outcomes(), names))
                wanted = is_carried(each, other, table)
                passed += wanted
                self.assertIs(carries(each, other, table), wanted)
            self.assertEqual(passed > 0, len(each.outcomes()) == len(other.outcomes()))

    def test_in_every_way(self):
        self.gives(True, carries, ONE, book("x y z"), {"a": "z", "b": "x", "c": "y"})
        self.gives(True, carries, BOW, BOW, {"a": "d", "b": "e", "c": "c", "d": "a", "e": "b"})
        self.gives(False, carries, BOW, BOW, {"a": "d", "b": "a", "c": "c", "d": "e", "e": "b"})

    def test_spoilt(self):
        good = {"a": "z", "b": "x", "c": "y"}
        other = book("x y z")
        for names in [{}, {"a": "z", "b": "x"}, {**good, "d": "w"}, {**good, "a": "x"}, {**good, "a": "w"}, {**good, "a": 1}, {**good, 1: "z"},
                      {**good, "a": None}, {**good, "a": ("z",)}, {**good, "a": ["z"]}, list(good.items()), None, {**good, None: "z"}]:
            self.gives(False, carries, ONE, other, names)

    def test_one_name_for_two(self):
        # The rooms renamed are those of the other book, but two outcomes have one name.
        self.gives(False, carries, TWO, BOW, {"a": "a", "b": "b", "c": "c", "d": "c", "e": "d", "f": "e"})

    def test_any_value(self):
        for value in odd_values() + [Thing(a="x")]:
            self.gives(False, carries, ONE, ONE, value)
            self.gives(False, carries, ONE, ONE, {"a": "a", "b": "b", "c": value})
            if isinstance(value, (str, int, tuple)) and value != (["a"],) and plain(value) not in (plain(([],)), plain(({},))):
                try:
                    table = {"a": "a", "b": "b", value: "c"}
                except TypeError:
                    continue
                self.gives(False, carries, ONE, ONE, table)


class AlikeTests(Case):
    def test_alike(self):
        chance = random.Random(1)
        for each in BOOKS + LARGE + CUBIC:
            other = another(each, chance)
            found = alike(each, other)
            self.assertTrue(is_carried(each, other, found))
            self.assertIs(carries(each, other, found), True)

    def test_not_alike(self):
        small, seen = [each for each in BOOKS if len(each.rooms) < 7], 0
        for at, each in enumerate(small):
            for other in small[at + 1:]:
                wanted = some_carrying(each, other)
                seen += wanted
                self.assertEqual(alike(each, other) is not None, wanted)
                self.assertEqual(one_form(each) == one_form(other), wanted)
        self.assertGreater(seen, 0)

    def test_as_many_rooms_and_outcomes(self):
        for one, other in [("a b c\nc d e\ne f g", "a b c\nc d e\nc f g"), ("a b c\nd e f\ng h i j", "a b c\nd e f j\ng h i"),
                           ("a b c\nc d e f\nf g h", "a b c f\nc d e\ne g h"), ("a b c d\nd e f g\ng h i", "a b c d\nd e f g\ni h x")]:
            one, other = book(one), book(other)
            wanted = some_carrying(one, other)
            self.assertEqual(alike(one, other) is not None, wanted)
        for at, one in enumerate(CUBIC):
            for other in CUBIC[at + 1:]:
                self.gives(None, alike, one, other)
        self.gives(None, alike, read_book("a b c\nc d e"), read_book("a b c\nd e f"))

    def test_in_every_way(self):
        chance = random.Random(2)
        for each in [ONE, BOW, TRIANGLE, GRID, K5, PIECES, TAILED, UNLIKE, EIGHT, star(10)]:
            other = another(each, chance)
            self.gives(alike(each, other), alike, each, other)
            self.gives(True, carries, each, other, alike(each, other))
            self.unchanged_by_changes(alike, each, other)
        for each, other in [(ONE, FIVE), (BOW, TWO), (SQUARE, TRIANGLE), (PENTAGON, HEXAGON), (K5, K6)]:
            self.gives(None, alike, each, other)

    def test_spoilt(self):
        chance = random.Random(3)
        for each in [BOW, TRIANGLE, GRID, UNLIKE]:
            other = another(each, chance)
            good = alike(each, other)
            for one in good:
                for two in good:
                    table = {**good, one: good[two], two: good[one]}
                    self.assertIs(carries(each, other, table), is_carried(each, other, table))
                self.gives(False, carries, each, other, {**good, one: "q"})
                self.gives(False, carries, each, other, {key: good[key] for key in good if key != one})


class FormTests(Case):
    def test_one_form(self):
        chance = random.Random(4)
        for each in BOOKS + LARGE + CUBIC:
            found = one_form(each)
            self.assertIsInstance(found, Book)
            self.assertIsNotNone(alike(each, found))
            for _ in range(4):
                self.assertEqual(one_form(another(each, chance)), found)
            self.assertEqual(one_form(found), found)

    def test_in_every_way(self):
        for each in [ONE, BOW, TRIANGLE, FANO, TORN, LINES, FIVES, EIGHT, ring_of(10), row_of(10), star(10), apart(4, 5), plane(3, 8)]:
            self.gives(one_form(each), one_form, each)


class OrderTests(Case):
    def orders(self, each, chance):
        other = another(each, chance)
        numbers = [list(range(count_sayings(each))) for _ in range(2)]
        for row in numbers:
            chance.shuffle(row)
        return order_of(each, tuple(numbers[0])), order_of(other, tuple(numbers[1]))

    def fits(self, one, other, found):
        """Whether a tuple of numbers keeps implying and opposites."""
        self.assertEqual(sorted(found), list(range(len(other.ups))))
        for number, row in enumerate(one.ups):
            self.assertEqual(sorted([found[up] for up in row]), list(other.ups[found[number]]))
            self.assertEqual(found[one.opposites[number]], other.opposites[found[number]])

    def test_alike(self):
        chance, many = random.Random(5), 0
        for each in BOOKS + [row_of(8), ring_of(8), apart(5, 4), CUBIC[1]]:
            one, other = self.orders(each, chance)
            if rings(each.rooms, 3):
                self.fails(Refused("order"), order_alike, one, other)
                continue
            many += 1
            self.fits(one, other, order_alike(one, other))
        self.assertGreater(many, 15)

    def test_not_alike(self):
        chance = random.Random(6)
        free = [each for each in BOOKS if not rings(each.rooms, 3) and len(each.rooms) < 6]
        for at, each in enumerate(free):
            for other in free[at + 1:][:6]:
                one, two = self.orders(each, chance)[0], self.orders(other, chance)[0]
                self.assertEqual(order_alike(one, two) is None, alike(each, other) is None)

    def test_in_every_way(self):
        chance = random.Random(7)
        for each in [ONE, BOW, TWO, SQUARE, UNLIKE]:
            one, other = self.orders(each, chance)
            self.gives(order_alike(one, other), order_alike, one, other)
        self.gives(None, order_alike, self.orders(BOW, chance)[0], self.orders(TWO, chance)[0])
        self.gives(None, order_alike, self.orders(ONE, chance)[0], self.orders(FIVE, chance)[0])

    def test_no_orders(self):
        good, torn = order_of(ONE, tuple(range(8))), order_of(TRIANGLE, tuple(range(count_sayings(TRIANGLE))))
        for value in odd_values():
            bad = Order(value, value)
            self.fails(Refused("order"), order_alike, bad, good)
            self.fails(Refused("order"), order_alike, good, bad)
            self.fails(Refused("order"), order_alike, bad, bad)
        self.fails(Refused("order"), order_alike, good, torn)
        self.fails(Refused("order"), order_alike, torn, good)


if __name__ == "__main__":
    unittest.main()
