"""Verdicts, and pairs without a join or a meet: points [23] to [27]."""

import unittest

from common import Case, Thing, odd_values
from oracle import Model, rings, short_rings_of
from samples import (BOW, FANO, GRID, HEXAGON, K5, K6, LARGE, LINES, MIDDLE, ONE, PENTAGON, SMALL, SQUARE, TAILED,
                     TORN, TRIANGLE, book, made_books, made_houses, ring_of, star)
from roomlooks.books import Book
from roomlooks.texts import read_book
from roomlooks.verdicts import House, Torn, check_verdict, court, joinless, meetless

LATE = book("x y z\na b c\nc d e\ne f a")
SQUARES = book("a b c\nc d e\ne f g\ng h a\nc h i")
BOOKS = SMALL + MIDDLE + [LATE, SQUARES] + made_books(39, 20, 6) + made_houses(40, 6, 5)


def least(model, one, other):
    uppers = [s for s in model.sayings if model.implies(one, s) and model.implies(other, s)]
    return [s for s in uppers if [t for t in uppers if model.implies(t, s)] == [s]]


def fits(each, model, torn):
    """Whether a Torn has what point [26] asks for, if its parts are of the right kinds."""
    if torn.ring not in short_rings_of(each.rooms) or torn.first == torn.second:
        return False
    if not all([saying in model.lots for saying in (torn.one, torn.other, torn.first, torn.second)]):
        return False
    found = least(model, torn.one, torn.other)
    return torn.first in found and torn.second in found


def by_the_words(model, ring):
    """The Torn of a ring, as point [26] tells it."""
    names = [name for _, name in ring]
    if len(ring) == 3:
        union = model.saying(ring[1][0], tuple(sorted(names[:2])))
        return ((names[0],), (names[1],), union, model.opposite((names[2],)))
    return ((names[0],), (names[2],), model.opposite((names[1],)), model.opposite((names[3],)))


class CourtTests(Case):
    def test_example(self):
        torn = court(read_book("a b c\nc d e\ne f a"))
        self.assertEqual(torn.ring, ((0, "c"), (1, "e"), (2, "a")))
        self.assertEqual((torn.first, torn.second), (("c", "e"), ("b", "c")))
        self.assertEqual((torn.one, torn.other), (("c",), ("e",)))

    def test_classes(self):
        self.assertEqual(vars(House(BOW)), {"book": BOW})
        self.assertEqual(vars(Torn(1, 2, 3, 4, 5)), {"ring": 1, "one": 2, "other": 3, "first": 4, "second": 5})
        made = Torn(ring=None, one=(), other=[], first="a", second=None)
        self.assertEqual(vars(made), {"ring": None, "one": (), "other": [], "first": "a", "second": None})
        self.assertFalse(made == Torn(None, (), [], "a", None))

    def test_courts(self):
        for each in BOOKS:
            found, short, model = court(each), short_rings_of(each.rooms), Model(each.rooms)
            if short:
                self.assertIsInstance(found, Torn)
                self.assertEqual(found.ring, short[0])
                attributes = (found.one, found.other, found.first, found.second)
                self.assertEqual(attributes, by_the_words(model, short[0]))
                self.assertTrue(fits(each, model, found))
            else:
                self.assertIsInstance(found, House)
                self.assertEqual(found.book, each)
            self.assertIs(check_verdict(each, found), True)

    def test_in_every_way(self):
        for each in [ONE, BOW, TRIANGLE, SQUARE, PENTAGON, HEXAGON, TORN, GRID, FANO, TAILED, LATE] + LARGE:
            self.gives(court(each), court, each)
            self.gives(True, check_verdict, each, court(each))

    def test_house_exactly_if_all_join(self):
        for each in SMALL + [PENTAGON, GRID, K5] + made_books(41, 12, 5):
            model = Model(each.rooms)
            pairs = [(a, b) for a in model.sayings for b in model.sayings]
            house = isinstance(court(each), House)
            self.assertEqual(house, all([model.join(a, b) is not None for a, b in pairs]))
            self.assertEqual(house, all([model.meet(a, b) is not None for a, b in pairs]))
            apart = [model.join(a, b) is not None for a, b in pairs if model.excludes(a, b)]
            self.assertEqual(not rings(each.rooms, 3), all(apart))


class CheckTests(Case):
    def test_houses(self):
        for each in [ONE, BOW, PENTAGON, HEXAGON]:
            self.gives(True, check_verdict, each, House(Book(each.rooms)))
            for other in [TRIANGLE, None, each.rooms, Thing(rooms=each.rooms), House(each), True]:
                self.gives(False, check_verdict, each, House(other))
        for each in [TRIANGLE, SQUARE, K6, LINES]:
            self.gives(False, check_verdict, each, House(each))
        self.gives(False, check_verdict, BOW, House(Book(tuple(reversed(BOW.rooms)))))

    def test_every_ring_and_saying(self):
        for each in [TRIANGLE, SQUARE, TAILED, book("a b c d\nd e f\na f g")]:
            model, passed = Model(each.rooms), 0
            for ring in short_rings_of(each.rooms):
                for first in model.sayings:
                    for second in model.sayings[::3]:
                        for one, other in [(("a",), ("c",)), (("c",), ("e",)), (("a",), ("d",)), (("a",), ("f",))]:
                            value = Torn(ring, one, other, first, second)
                            wanted = fits(each, model, value)
                            passed += wanted
                            self.assertIs(check_verdict(each, value), wanted)
            self.assertGreaterEqual(passed, 0)
        # The sayings need not be those of the ring.
        twice = book("a b c\nc d e\ne f a\nm n o\no p q\nq r m")
        self.gives(True, check_verdict, twice, Torn(short_rings_of(twice.rooms)[1], *by_the_words(
            Model(twice.rooms), short_rings_of(twice.rooms)[0])))

    def test_spoilt(self):
        for each in [TRIANGLE, SQUARE, TORN, FANO, SQUARES]:
            good, model = court(each), Model(each.rooms)
            self.assertTrue(check_verdict(each, good))
            for name in vars(good):
                others = [None, (), good.ring, good.ring[1:], good.ring[::-1], list(good.ring), model.all, ("a",), ["a"],
                          ("a", "z"), good.first, good.second, good.one, good.other, "a", True, 0]
                for other in others + model.sayings:
                    value = Torn(**{**vars(good), name: other})
                    wanted = name != "ring" and isinstance(other, tuple) and fits(each, model, value) or (
                        name == "ring" and type(other) is tuple and other == good.ring)
                    self.assertIs(check_verdict(each, value), wanted, (each.rooms, vars(value)))
        self.gives(False, check_verdict, BOW, court(TRIANGLE))
        self.gives(False, check_verdict, PENTAGON, Torn(rings(PENTAGON.rooms, 5)[0], ("a",), ("c",), (), ()))

    def test_long_rings_are_no_short_ones(self):
        # Above "a" and "c" there are two least sayings, but the ring that is told has five rooms.
        both = book("a b c\nc d e\ne f a\ng h i\ni j k\nk l m\nm n o\no p g")
        good, five = court(both), rings(both.rooms, 5)[0]
        self.gives(True, check_verdict, both, good)
        self.gives(False, check_verdict, both, Torn(five, good.one, good.other, good.first, good.second))

    def test_any_value(self):
        good = court(TRIANGLE)
        for value in odd_values() + [Thing(**vars(good)), Thing(book=BOW)]:
            self.gives(False, check_verdict, TRIANGLE, value)
            self.gives(False, check_verdict, BOW, value)
            self.gives(False, check_verdict, BOW, House(value))
            for name in vars(good):
                self.gives(False, check_verdict, TRIANGLE, Torn(**{**vars(good), name: value}))

    def test_torn_passes_for_a_longer_book(self):
        for each in [TRIANGLE, SQUARE, TORN, SQUARES, K5]:
            fresh = tuple(["z" + letter for letter in "abc"])
            for room in [fresh, (each.outcomes()[0],) + fresh[1:]]:
                self.gives(True, check_verdict, Book(each.rooms + (room,)), court(each))


class PairTests(Case):
    def test_example(self):
        found = joinless(read_book("a b c\nc d e\ne f a"))
        pairs = [("a", "c"), ("a", "d"), ("a", "e"), ("b", "e"), ("c", "e"), ("c", "f")]
        self.assertEqual([(one[0], other[0]) for one, other in found], pairs)

    def test_against_joins_and_meets(self):
        many = 0
        for each in BOOKS:
            model = Model(each.rooms)
            if len(model.sayings) > 90:
                continue
            pairs = [(a, b) for at, a in enumerate(model.sayings) for b in model.sayings[at + 1:]]
            self.assertEqual(joinless(each), tuple([p for p in pairs if model.join(*p) is None]))
            self.assertEqual(meetless(each), tuple([p for p in pairs if model.meet(*p) is None]))
            many += len(joinless(each)) > 0
        self.assertGreater(many, 10)

    def test_in_every_way(self):
        for each in [ONE, BOW, PENTAGON, HEXAGON, star(10), ring_of(10)]:
            self.gives((), joinless, each)
            self.gives((), meetless, each)
        self.gives(((("a",), ("c",)), (("b",), ("d",))), joinless, SQUARE)
        for each in [TRIANGLE, SQUARE, SQUARES, FANO, TORN, book("a b c x\nc d e y\ne f a z")]:
            self.gives(joinless(each), joinless, each)
            self.gives(meetless(each), meetless, each)

    def test_large_books(self):
        for each in LARGE:
            found = joinless(each)
            self.assertEqual(found == (), not short_rings_of(each.rooms))
            self.assertEqual(len(found), len(meetless(each)))


if __name__ == "__main__":
    unittest.main()
