"""Cases: point [66]."""

import unittest
from itertools import combinations

from common import Case, Thing, odd_values, plain
from oracle import settings
from samples import (BOW, EIGHT, FIVES, GRID, HEXAGON, K5, LARGE, MIDDLE, ONE, PENTAGON, SMALL, TORN, TRIANGLE, TWO, apart,
                     book, made_books, pairs_book, plane, star)
from roomlooks.cases import Cases, check_cases, fixed, some_setting
from roomlooks.errors import InvalidLook, Refused

BOOKS = SMALL + MIDDLE + made_books(19, 20, 7)
NO_SETTINGS = [K5, plane(3, 10), pairs_book(5, [(a, b) for b in range(5) for a in range(b)])]


def excluded(each, row, outcome):
    return any([outcome != other and each.room_of_two(outcome, other) is not None for other in row])


def are_cases(each, row, value, inside=20):
    """Whether an object made of Cases, None and tuples is a Cases for a row, by the words."""
    if not isinstance(value, Cases) or inside == 0 or len(value.parts) != len(each.rooms[value.room]):
        return False
    for outcome, part in zip(each.rooms[value.room], value.parts):
        if part is None and not excluded(each, row, outcome):
            return False
        if part is not None and not are_cases(each, row + (outcome,), part, inside - 1):
            return False
    return True


def depth_of(value):
    return 0 if value is None else 1 + max([depth_of(part) for part in value.parts])


def copy_of(value):
    """A Cases again, and all objects that differ from it in one place."""
    return None if value is None else Cases(value.room, tuple([copy_of(part) for part in value.parts]))


def spoilt(value, rooms):
    """Objects that differ from a Cases in one place."""
    if value is None:
        return
    for room in [-1, None, rooms, True, "0"] + [other for other in range(rooms) if other != value.room]:
        yield Cases(room, value.parts)
    for parts in [list(value.parts), None, value.parts[1:], value.parts + (None,)]:
        yield Cases(value.room, parts)
    for at, part in enumerate(value.parts):
        others = list(spoilt(part, rooms)) + [() if part is None else None, 0]
        for other in others:
            yield Cases(value.room, value.parts[:at] + (other,) + value.parts[at + 1:])


class SomeTests(Case):
    def test_setting_or_cases(self):
        many = 0
        for each in BOOKS + NO_SETTINGS + LARGE:
            names = each.outcomes()
            rows = [(), names[:1], names[-1:], names[:2], names[1:3], (names[0], names[-1], names[0]), names]
            found = [setting for _, setting in settings(each.rooms)] if len(each.rooms) < 8 else None
            for told in rows:
                value = some_setting(each, told)
                if isinstance(value, Cases):
                    many += 1
                    self.assertTrue(are_cases(each, told, value))
                    self.assertIs(check_cases(each, told, value), True)
                    self.assertLessEqual(depth_of(value), 20)
                if found is not None:
                    fitting = [setting for setting in found if set(told) <= set(setting)]
                    self.assertEqual(isinstance(value, Cases), fitting == [])
                    self.assertTrue(not fitting or value == fitting[0])
        self.assertGreater(many, 100)

    def test_all_pairs(self):
        for each in [BOW, TRIANGLE, TORN, GRID, K5, HEXAGON]:
            for told in combinations(each.outcomes(), 2):
                fitting = [setting for _, setting in settings(each.rooms) if set(told) <= set(setting)]
                value = some_setting(each, told)
                if fitting:
                    self.assertEqual(value, fitting[0])
                else:
                    self.assertTrue(are_cases(each, told, value))

    def test_in_every_way(self):
        self.gives(("a", "d"), some_setting, BOW)
        self.gives(("b", "d"), some_setting, BOW, ("b",))
        self.gives(("b", "e"), some_setting, BOW, told=("e", "b", "e"))
        self.gives(some_setting(K5), some_setting, K5)
        self.gives(some_setting(BOW, ("a", "c")), some_setting, BOW, ("a", "c"))
        self.gives(some_setting(EIGHT), some_setting, EIGHT)
        self.gives(("a",), some_setting, star(10))

    def test_books_of_four_rooms(self):
        for each in SMALL + made_books(20, 60, 4):
            if len(each.rooms) < 5:
                self.assertIsInstance(some_setting(each), tuple)
        self.assertIsInstance(some_setting(K5), Cases)

    def test_classes(self):
        self.assertEqual(vars(Cases(1, (None,))), {"room": 1, "parts": (None,)})
        self.assertEqual(vars(Cases(room=None, parts=[])), {"room": None, "parts": []})


class CheckTests(Case):
    def test_spoilt(self):
        checked = 0
        rows = [(K5, ()), (K5, ("a",)), (BOW, ("a", "b")), (TRIANGLE, ("a", "c")), (TORN, ("a", "d", "e"))]
        made = [(each, ()) for each in made_books(99, 120) if isinstance(some_setting(each), Cases)]
        for each, told in rows + made:
            value = some_setting(each, told)
            self.assertTrue(check_cases(each, told, value))
            before = plain(value)
            for other in spoilt(copy_of(value), len(each.rooms)):
                checked += 1
                wanted = plausible(each, other) and are_cases(each, told, other)
                self.assertIs(check_cases(each, told, other), wanted)
            self.assertEqual(plain(value), before)
        self.assertGreater(checked, 500)

    def test_none_only_where_excluded(self):
        nothing = Cases(0, (None, None, None))
        self.gives(False, check_cases, BOW, (), nothing)
        self.gives(False, check_cases, BOW, ("a",), nothing)
        self.gives(True, check_cases, BOW, ("a", "b"), nothing)
        self.gives(True, check_cases, BOW, ("a", "c", "c"), nothing)
        self.gives(False, check_cases, BOW, ("a", "b"), Cases(1, (None, None, None)))
        # The opposite of nothing: the outcome itself does not exclude itself.
        self.gives(False, check_cases, ONE, ("a", "a"), nothing)

    def test_how_many_inside(self):
        for made in [lambda part: Cases(0, (None, None, part)), lambda part: Cases(0, (part, part, part))]:
            value = Cases(0, (None, None, None))
            for inside in range(1, 24):
                self.assertIs(check_cases(BOW, ("a", "b"), value), inside <= 20)
                self.assertIs(check_cases(BOW, (), value), False)
                value = made(value)

    def test_one_object_at_many_places(self):
        value = Cases(0, (None, None, None))
        for room in [0, 1, 0, 1, 0, 1, 0, 1, 1, 1, 0, 0, 1, 0, 1, 1]:
            value = Cases(room, (value, value, value))
        self.assertTrue(check_cases(BOW, ("a", "b"), value))
        self.assertFalse(check_cases(BOW, ("a",), value))

    def test_object_that_contains_itself(self):
        value = Cases(0, ())
        value.parts = (None, value, value)
        self.assertFalse(check_cases(BOW, ("a", "b"), value))
        self.assertFalse(check_cases(BOW, (), value))

    def test_any_value(self):
        good = some_setting(K5)
        for value in odd_values() + [("a", "d"), Thing(room=good.room, parts=good.parts)]:
            self.gives(False, check_cases, K5, (), value)
            self.gives(False, check_cases, K5, (), Cases(value, good.parts))
            self.gives(False, check_cases, K5, (), Cases(good.room, value))
            if value is not None:
                self.gives(False, check_cases, K5, (), Cases(good.room, (value,) + good.parts[1:]))
                self.gives(False, check_cases, ONE, ("a", "b"), Cases(0, (value, None, None)))
        self.gives(True, check_cases, K5, (), good)

    def test_wrong_told(self):
        for value in odd_values():
            if not isinstance(value, tuple):
                self.fails(InvalidLook(-1), some_setting, BOW, value)
                self.fails(InvalidLook(-1), check_cases, BOW, value, None)
                self.fails(InvalidLook(-1), fixed, BOW, value)
            self.fails(InvalidLook(1), some_setting, BOW, ("a", value))
            self.fails(InvalidLook(0), check_cases, BOW, (value, "z"), Cases(0, ()))
            self.fails(InvalidLook(2), fixed, BOW, ("a", "b", value))


def plausible(each, value):
    """Whether all parts of an object have the kinds that are needed to look further."""
    if value is None:
        return True
    if not isinstance(value, Cases) or isinstance(value.room, bool) or not isinstance(value.room, int):
        return False
    if not 0 <= value.room < len(each.rooms) or not isinstance(value.parts, tuple):
        return False
    return all([plausible(each, part) for part in value.parts])


class FixedTests(Case):
    def test_fixed(self):
        for each in SMALL + MIDDLE + made_books(21, 15, 6):
            found = [setting for _, setting in settings(each.rooms)]
            names = each.outcomes()
            for told in [(), names[:1], names[-1:], (names[0], names[-1]), names[:2]]:
                fitting = [setting for setting in found if set(told) <= set(setting)]
                if fitting:
                    sure = tuple([name for name in names if all([name in setting for setting in fitting])])
                    out = tuple([name for name in names if not any([name in setting for setting in fitting])])
                    self.assertEqual(fixed(each, told), (sure, out))
                else:
                    with self.assertRaises(Refused) as caught:
                        fixed(each, told)
                    self.assertEqual(caught.exception.word, "none")

    def test_in_every_way(self):
        self.gives(((), ()), fixed, BOW)
        self.gives((("c",), ("a", "b", "d", "e")), fixed, BOW, ("c",))
        self.gives((("a",), ("b", "c")), fixed, BOW, told=("a",))
        self.fails(Refused("none"), fixed, BOW, ("a", "c"))
        self.fails(Refused("none"), fixed, K5)
        for each in [TORN, PENTAGON, TWO, apart(4, 5), book("a b c\na d e\nb d f\nc e f")]:
            self.gives(fixed(each), fixed, each)
        self.assertIsInstance(some_setting(FIVES), (tuple, Cases))


if __name__ == "__main__":
    unittest.main()
