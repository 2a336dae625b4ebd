"""Colours: point [71]."""

import random
import unittest
from itertools import combinations, product

from common import Case, Thing, odd_values, plain
from samples import (BOW, EIGHT, FANO, FIVE, GRID, K5, K6, LARGE, LINES, MIDDLE, ONE, SMALL, SQUARE, TRIANGLE, TWO, UNLIKE,
                     apart, book, plane, star)
from roomlooks.books import Book
from roomlooks.colours import Colours, Stuck, check_colours, colours
from roomlooks.errors import Refused
from roomlooks.full import least_full
from roomlooks.settings import all_settings
from roomlooks.texts import read_book

PETERSEN = least_full(3, 5)


def has_one_size(each):
    return len(set([len(room) for room in each.rooms])) == 1


def made(seed, many):
    """Books whose rooms have one size, made by chance."""
    chance, found = random.Random(seed), []
    for _ in range(many):
        size = chance.choice((3, 3, 4, 5))
        names, most = "abcdefghijklmnopqrstuvwx"[:chance.randint(size, 24)], chance.randint(1, 10)
        rooms = []
        for _ in range(150):
            room = tuple(sorted(chance.sample(names, size)))
            if len(rooms) < most and all([len(set(room) & set(other)) < 2 for other in rooms]):
                rooms.append(room)
        found.append(Book(tuple(rooms)))
    return found


BOOKS = [each for each in SMALL + MIDDLE + LARGE if has_one_size(each)] + [FANO, PETERSEN] + made(1, 60)


def excluded(each, painted, outcome, colour):
    return any([painted[other] == colour and other != outcome and each.room_of_two(other, outcome) is not None
                for other in painted])


def is_stuck(each, painted, value):
    """Whether an object of Stuck, None and tuples is a Stuck for painted outcomes, by the words."""
    size = len(each.rooms[0])
    if not isinstance(value, Stuck) or value.outcome in painted or value.outcome not in each.outcomes():
        return False
    if len(value.parts) != size:
        return False
    for colour, part in enumerate(value.parts):
        if part is None and not excluded(each, painted, value.outcome, colour):
            return False
        if part is not None and not is_stuck(each, {**painted, value.outcome: colour}, part):
            return False
    return True


def first_paint(each):
    return {outcome: colour for colour, outcome in enumerate(each.rooms[0])}


def can_be_coloured(each):
    """Whether colours exist, by trying rows of settings."""
    found, size = [set(setting) for setting in all_settings(each)], len(each.rooms[0])
    lots = [frozenset()]
    for _ in range(size):
        lots = list(set([lot | setting for lot in lots for setting in found if not lot & setting]))
    return any([len(lot) == len(each.outcomes()) for lot in lots])


def parts_of(value):
    return [] if value is None else [value] + [inner for part in value.parts for inner in parts_of(part)]


def spoilt(value):
    """Objects that differ from a Stuck in one place."""
    for outcome in [None, "z", "", ("a",), True, 0]:
        yield Stuck(outcome, value.parts)
    for parts in [list(value.parts), None, value.parts[1:], value.parts + (None,), ()]:
        yield Stuck(value.outcome, parts)
    for at, part in enumerate(value.parts):
        others = [Stuck(value.outcome, (None,) * len(value.parts)), 0] if part is None else [None] + list(spoilt(part))
        for other in others:
            yield Stuck(value.outcome, value.parts[:at] + (other,) + value.parts[at + 1:])


class ColourTests(Case):
    def test_classes(self):
        self.assertEqual(vars(Colours(())), {"settings": ()})
        self.assertEqual(vars(Colours(settings=None)), {"settings": None})
        self.assertEqual(vars(Stuck("a", ())), {"outcome": "a", "parts": ()})
        self.assertEqual(vars(Stuck(outcome=[], parts=None)), {"outcome": [], "parts": None})

    def test_one_of_both(self):
        kinds = []
        for each in BOOKS:
            found = colours(each)
            kinds.append(type(found))
            if isinstance(found, Colours):
                self.assertEqual(sorted([name for lot in found.settings for name in lot]), list(each.outcomes()))
                for lot in found.settings:
                    self.assertTrue(all([len(set(lot) & set(room)) == 1 for room in each.rooms]))
                    self.assertEqual(lot, tuple(sorted(lot)))
            else:
                self.assertTrue(is_stuck(each, first_paint(each), found))
            self.assertIs(check_colours(each, found), True)
            if len(each.rooms) < 7 and len(all_settings(each)) < 60:
                self.assertEqual(isinstance(found, Colours), can_be_coloured(each))
        self.assertGreater(kinds.count(Stuck), 3)
        self.assertGreater(kinds.count(Colours), 30)

    def test_in_every_way(self):
        for each in [ONE, TWO, BOW, TRIANGLE, FANO, GRID, K5, K6, PETERSEN, FIVE, LINES, EIGHT]:
            self.gives(colours(each), colours, each)
            self.gives(True, check_colours, each, colours(each))
        self.assertIsInstance(colours(PETERSEN), Stuck)
        self.assertIsInstance(colours(K5), Stuck)
        self.assertIsInstance(colours(K6), Colours)
        self.assertIsInstance(colours(read_book("a b c\nc d e")), Colours)

    def test_unlike_sizes(self):
        for each in [UNLIKE, book("a b c\nd e f g"), book("a b c d\nd e f")]:
            self.fails(Refused("sizes"), colours, each)
            for value in [None, Colours(()), Stuck("d", (None, None, None))]:
                self.fails(Refused("sizes"), check_colours, each, value)


class CheckTests(Case):
    def test_all_rows_of_settings(self):
        for each in [ONE, BOW, TRIANGLE, SQUARE, star(3), GRID]:
            found, passed = all_settings(each), 0
            for many in range(5):
                for row in list(combinations(found, many))[:400]:
                    wanted = sorted([name for lot in row for name in lot]) == list(each.outcomes())
                    passed += wanted
                    self.assertIs(check_colours(each, Colours(row)), wanted)
            self.assertGreater(passed, 0)
        for row in product(all_settings(BOW), repeat=3):
            wanted = sorted([name for lot in row for name in lot]) == list(BOW.outcomes())
            self.assertIs(check_colours(BOW, Colours(row)), wanted)

    def test_spoilt_colours(self):
        good = colours(BOW).settings
        self.gives(True, check_colours, BOW, Colours(good[::-1]))
        for row in [good[1:], good + (good[0],), good + ((),), list(good), (list(good[0]),) + good[1:], None, (), "abc",
                    good[:2] + (None,), (good,), good[:2] + (good[2][::-1] + ("z",),)]:
            self.gives(False, check_colours, BOW, Colours(row))

    def test_spoilt_stuck(self):
        checked = 0
        for each in [K5, PETERSEN, plane(3, 10)]:
            good = colours(each)
            self.assertTrue(is_stuck(each, first_paint(each), good))
            before = plain(good)
            for other in spoilt(good):
                checked += 1
                wanted = kinds_fit(other) and is_stuck(each, first_paint(each), other)
                self.assertIs(check_colours(each, other), wanted)
            self.assertEqual(plain(good), before)
        self.assertGreater(checked, 100)

    def test_wrong_outcomes(self):
        good = colours(K5)
        for part in parts_of(good):
            self.assertNotIn(part.outcome, K5.rooms[0])
        for outcome in K5.outcomes():
            value = Stuck(outcome, (None,) * 4)
            self.gives(is_stuck(K5, first_paint(K5), value), check_colours, K5, value)
        # An outcome of room 0 has its colour already.
        self.gives(False, check_colours, ONE, Stuck("a", (None, None, None)))
        self.gives(False, check_colours, BOW, Stuck("c", (None, None, None)))

    def test_stuck_where_a_colour_is_excluded(self):
        # Instead of None some Stuck may stand, for the case that the outcome has the colour all the same.
        for each in [K5, PETERSEN]:
            good = colours(each)
            at = [colour for colour, part in enumerate(good.parts)
                  if part is None and excluded(each, first_paint(each), good.outcome, colour)]
            for colour in at:
                painted = {**first_paint(each), good.outcome: colour}
                inner = [part for part in parts_of(good) if is_stuck(each, painted, part)]
                for part in inner:
                    value = Stuck(good.outcome, good.parts[:colour] + (part,) + good.parts[colour + 1:])
                    self.gives(True, check_colours, each, value)

    def test_object_that_contains_itself(self):
        value = Stuck("e", ())
        value.parts = (value, value, value)
        self.assertFalse(check_colours(BOW, value))

    def test_one_object_at_many_places(self):
        value = Stuck("x", (None, None, None))
        each = apart(8)
        for outcome in "wvutsrqponmlkjihg":
            value = Stuck(outcome, (value, value, value))
        self.assertFalse(check_colours(each, value))

    def test_any_value(self):
        good = colours(K5)
        for value in odd_values() + [Thing(**vars(good)), Thing(settings=colours(BOW).settings), ("a", "d")]:
            self.gives(False, check_colours, K5, value)
            self.gives(False, check_colours, BOW, value)
            self.gives(False, check_colours, BOW, Colours(value))
            self.gives(False, check_colours, BOW, Colours((value,)))
            self.gives(False, check_colours, K5, Stuck(value, good.parts))
            self.gives(False, check_colours, K5, Stuck(good.outcome, value))
            if value is not None:
                self.gives(False, check_colours, K5, Stuck(good.outcome, (value,) + good.parts[1:]))


def kinds_fit(value):
    if value is None:
        return True
    if not isinstance(value, Stuck) or not isinstance(value.outcome, str) or not isinstance(value.parts, tuple):
        return False
    return all([kinds_fit(part) for part in value.parts])


if __name__ == "__main__":
    unittest.main()
