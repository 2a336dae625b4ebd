"""Light lots, hidden rooms, odd weights: point [61]."""

import unittest
from itertools import combinations

from common import Case, odd_values
from samples import (BOW, EIGHT, FANO, FIVE, FIVES, GRID, HEXAGON, K5, LARGE, LINES, MIDDLE, ONE, PENTAGON, SMALL, SQUARE, TORN, TRIANGLE,
                     TWO, apart, book, made_books, row_of, star)
from test_bounds import NEVER, NEVERS, SEVEN, worth
from test_enough import K4, PETERSEN
from roomlooks.books import Book
from roomlooks.bounds import greatest_total, least_total
from roomlooks.enough import unparted_lots
from roomlooks.errors import NoWeight, Refused
from roomlooks.light import hidden_rooms, is_light, odd_weight
from roomlooks.texts import read_book
from roomlooks.weights import check_some, check_weight, is_weight, some_weight

BOOKS = SMALL + MIDDLE + [NEVER, NEVERS, K4, PETERSEN] + made_books(85, 20, 8)


def factors(each, lot):
    return tuple([int(name in lot) for name in each.outcomes()])


def most(each, lot):
    return worth(greatest_total(each, factors(each, lot)).value)


def least(each, lot):
    return worth(least_total(each, factors(each, lot)).value)


def apart_lots_of(each, size):
    return [lot for lot in combinations(each.outcomes(), size)
            if not any([len(set(lot) & set(room)) > 1 for room in each.rooms])]


class LightTests(Case):
    def test_light_lots(self):
        for each in [ONE, BOW, TRIANGLE, K4, SQUARE, TORN, NEVER]:
            for size in range(5):
                for lot in list(combinations(each.outcomes(), size))[::3]:
                    self.assertIs(is_light(each, lot), most(each, lot) <= 1)

    def test_in_every_way(self):
        self.gives(True, is_light, BOW, ("a", "b", "c"))
        self.gives(True, is_light, BOW, ())
        self.gives(False, is_light, BOW, ("a", "d"))
        self.gives(False, is_light, BOW, BOW.outcomes())
        self.gives(True, is_light, K4, ("a", "c", "e"))
        self.gives(False, is_light, TRIANGLE, ("a", "c", "e"))
        self.gives(True, is_light, NEVER, ("x",))
        self.gives(True, is_light, TORN, ("x", "y", "z"))
        # A lot of a room, and an outcome that never comes.
        self.gives(True, is_light, NEVERS, ("a", "b", "c", "x", "y"))
        for lot in [(), ("a",), SEVEN.outcomes()]:
            self.gives(True, is_light, SEVEN, lot)

    def test_rooms_are_the_greatest_light_lots(self):
        for each in [ONE, BOW, TRIANGLE, K4, SQUARE, TWO, PENTAGON]:
            names = each.outcomes()
            lots = [lot for size in range(6) for lot in combinations(names, size) if is_light(each, lot)]
            within = all([any([set(lot) <= set(room) for room in each.rooms]) for lot in lots])
            self.assertEqual(within, not [lot for lot in unparted_lots(each) if len(lot) > 1])
            if within:
                greatest = [lot for lot in lots if not any([set(lot) < set(other) for other in lots])]
                self.assertEqual(sorted(greatest), sorted(each.rooms))

    def test_wrong_lots(self):
        for value in odd_values() + [["a"], "abc", ("b", "a"), ("a", "a"), ("a", "z"), ("a", None), None]:
            for each in (BOW, SEVEN):
                if value != ():
                    self.fails(Refused("lot"), is_light, each, value)
                self.fails(Refused("lot"), is_light, each, ("a", value))


class HiddenTests(Case):
    def test_hidden_rooms(self):
        many = 0
        for each in BOOKS + [FANO, K5]:
            lots = [lot for size in (3, 4, 5) for lot in apart_lots_of(each, size)]
            wanted = [lot for lot in lots[::1 + len(lots) // 300] if least(each, lot) == 1 == most(each, lot)]
            found = hidden_rooms(each)
            many += len(found) > 0
            self.assertEqual(found, tuple(sorted(found)))
            self.assertTrue(set(wanted) <= set(found))
            for lot in found:
                self.assertIn(lot, lots)
                self.assertTrue(least(each, lot) == 1 == most(each, lot))
        self.assertGreater(many, 1)

    def test_example(self):
        self.gives((("x", "y", "z"),), hidden_rooms, read_book("a b x\nc d y\ne f z\na c e\nb d f"))

    def test_put_in_as_a_room(self):
        # It changes no weight: the longer book has the same weights.
        for each in [TORN, PETERSEN, GRID, K4] + BOOKS:
            for room in hidden_rooms(each)[:3]:
                if len(each.rooms) < 10:
                    longer = Book(each.rooms + (room,))
                    self.assertIsNone(odd_weight(each, longer))
                    self.assertIsNone(odd_weight(longer, each))

    def test_in_every_way(self):
        for each in [ONE, BOW, TWO, HEXAGON, EIGHT, apart(4, 5), star(10), row_of(10), SQUARE]:
            self.gives((), hidden_rooms, each)
        for each in [TORN, PETERSEN, K4, K5, FANO, LINES, FIVES, NEVER]:
            self.gives(hidden_rooms(each), hidden_rooms, each)
        # Three rows of a grid, and two columns of it: the third column is hidden.
        self.gives((("c", "f", "i"),), hidden_rooms, book("a b c\nd e f\ng h i\na d g\nb e h"))

    def test_hidden_rooms_of_four_and_five(self):
        # Four rows of four outcomes, and all columns but the last one.
        grid = book("a b c m\nd e f n\ng h i o\nj k l p\na d g j\nb e h k\nc f i l")
        self.gives((("m", "n", "o", "p"),), hidden_rooms, grid)
        # Five rows, and four columns with all of their outcomes but one of each.
        rows = book("a b m\nc d n\ne f o\ng h i p\nj k l q\na g j\nc h k\ne i l\nb d f")
        self.gives((("m", "n", "o", "p", "q"),), hidden_rooms, rows)
        # Shorter and longer ones, ascending; two outcomes that have 1 together in all weights are none.
        mixed = book("b i l\na g h i zz\nb f h k m\na abc b ba\nc e h\nba e g l\ne j m\nab d h\nab abc c i j\nba c k")
        self.gives((("abc", "d", "f"), ("abc", "d", "f", "g"), ("abc", "d", "g"), ("d", "f", "g")), hidden_rooms, mixed)
        two = book("a d e zz\nba c g h\nabc b d g\nab b ba zz\nf h zz\nc e f\nabc c zz\na ba f\nab e g\nab c d")
        self.assertTrue(least(two, ("ab", "f")) == 1 == most(two, ("ab", "f")))
        self.assertIsNone(two.room_of_two("ab", "f"))
        self.assertEqual([lot for lot in hidden_rooms(two) if len(lot) < 3], [])
        # Six together have 1 in all weights, but that is no room.
        six = book("a b m\nc d n\ne f o\ng h i p\nj k l q\na g j\nc h k\ne i l\nb d r")
        self.assertEqual([lot for lot in hidden_rooms(six) if len(set(lot) & set("mnopqr")) > 4], [])

    def test_with_enough_weights_there_is_none(self):
        for each in BOOKS:
            if not unparted_lots(each):
                self.assertEqual(hidden_rooms(each), ())

    def test_no_weight(self):
        self.fails(NoWeight(), hidden_rooms, SEVEN)


class OddTests(Case):
    def test_odd_weights(self):
        kinds = []
        named = [book("a b c\nd e f\ng h i\na d g"), GRID, book("a b c\nd e f\ng h i\na d g\nb e h"), book("a d g\nb e h\nc f i"),
                 book("a b c d e\nf g h i"), book("a e i\nb f g\nc d h")]
        for each in named:
            for other in named:
                if each.outcomes() != other.outcomes():
                    self.fails(Refused("outcomes"), odd_weight, each, other)
                    continue
                found = odd_weight(each, other)
                kinds.append(found is None)
                wanted = all([least(each, room) == 1 == most(each, room) for room in other.rooms])
                self.assertEqual(found is None, wanted)
                if found is not None:
                    self.assertIsNone(check_weight(each, found))
                    self.assertFalse(is_weight(other, found))
        self.assertGreater(kinds.count(True), 8)
        self.assertGreater(kinds.count(False), 8)

    def test_in_every_way(self):
        five = book("a b c\nd e f\ng h i\na d g\nb e h")
        self.gives(None, odd_weight, five, GRID)
        self.gives(None, odd_weight, GRID, five)
        four = book("a b c\nd e f\ng h i\na d g")
        self.gives(odd_weight(four, GRID), odd_weight, four, GRID)
        self.assertIsNotNone(odd_weight(four, GRID))
        for each in [ONE, BOW, K5, LINES]:
            self.gives(None, odd_weight, each, each)

    def test_no_weight(self):
        names = SEVEN.outcomes()
        other = Book((names[:4], names[4:8], names[8:]))
        self.gives(None, odd_weight, SEVEN, other)
        self.gives(odd_weight(other, SEVEN), odd_weight, other, SEVEN)
        self.assertTrue(check_some(other, odd_weight(other, SEVEN)))

    def test_unlike_outcomes(self):
        for each, other in [(ONE, FIVE), (BOW, TWO), (TWO, BOW), (ONE, book("a b d")), (SEVEN, ONE), (LARGE[0], LARGE[1])]:
            if each.outcomes() != other.outcomes():
                self.fails(Refused("outcomes"), odd_weight, each, other)
        self.assertIsInstance(some_weight(FIVE), tuple)


if __name__ == "__main__":
    unittest.main()
