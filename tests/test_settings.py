"""Settings: points [64] and [65]."""

import unittest
from itertools import combinations

from common import Case, odd_values
from oracle import Model, settings
from samples import (BOW, GRID, K5, LARGE, MIDDLE, ONE, PENTAGON, SMALL, TORN, TRIANGLE, TWO, EIGHT, apart, made_books, star)
from roomlooks.errors import InvalidLook, InvalidNumber, InvalidSaying, Refused
from roomlooks.settings import (all_settings, choices, count_settings, holds, is_setting, place_of_setting, setting_at)

BOOKS = SMALL + MIDDLE + made_books(14, 20, 6)


def no_settings():
    """Values that are no settings of the bow of two rooms."""
    return odd_values() + [(), ("a",), ("a", "c"), ("d", "a"), ["a", "d"], ("a", "a", "d"), ("a", "b", "d"), ("c", "d"),
                           ("a", "d", "e"), ("a", "z"), "ad", ("c", "c"), ("c", None), ("a", "d", "z"), ("c", "z"),
                           ("a", "ab", "d")]


class SettingTests(Case):
    def test_is_setting(self):
        for each in [ONE, TWO, BOW, TRIANGLE]:
            good = [setting for _, setting in settings(each.rooms)]
            for size in range(5):
                for lot in combinations(each.outcomes(), size):
                    self.gives(lot in good, is_setting, each, lot)
        for value in no_settings():
            self.gives(False, is_setting, BOW, value)
        self.gives(True, is_setting, BOW, ("c",))
        self.gives(True, is_setting, BOW, ("a", "d"))
        self.gives(True, is_setting, star(10), ("a",))

    def test_choices(self):
        for each in BOOKS:
            for chosen, setting in settings(each.rooms):
                self.assertEqual(choices(each, setting), chosen)
        self.gives(("c", "c"), choices, BOW, ("c",))
        self.gives(("a", "d"), choices, BOW, ("a", "d"))
        for value in no_settings():
            self.fails(Refused("setting"), choices, BOW, value)
            self.fails(Refused("setting"), place_of_setting, BOW, value)
            self.fails(Refused("setting"), holds, BOW, value, ("a",))
            self.fails(Refused("setting"), holds, BOW, value, value)

    def test_holds(self):
        for each in [ONE, TWO, BOW, TRIANGLE, PENTAGON]:
            model = Model(each.rooms)
            for chosen, setting in settings(each.rooms):
                for saying in model.sayings:
                    by_form = [chosen[room] in lot for room, lot in model.forms[saying]]
                    self.assertEqual(len(set(by_form)), 1)
                    self.gives(by_form[0], holds, each, setting, saying)
        for value in odd_values():
            if not isinstance(value, tuple):
                self.fails(InvalidSaying(-1), holds, BOW, ("c",), value)
            self.fails(InvalidSaying(0), holds, BOW, ("c",), (value,))
        self.fails(InvalidSaying(2), holds, BOW, ("c",), ("d", "e"))


class NumberTests(Case):
    def test_all_settings(self):
        for each in BOOKS:
            found = tuple([setting for _, setting in settings(each.rooms)])
            self.assertEqual(all_settings(each), found)
            self.assertEqual(count_settings(each), len(found))
            for place, setting in enumerate(found[:30]):
                self.assertEqual(setting_at(each, place), setting)
                self.assertEqual(place_of_setting(each, setting), place)
            self.assertIsNone(setting_at(each, len(found)))

    def test_told(self):
        for each in [ONE, BOW, TRIANGLE, GRID, TORN, K5, star(4, 4)]:
            found = [setting for _, setting in settings(each.rooms)]
            names = each.outcomes()
            rows = [(p,) for p in names] + [(p, q) for p in names for q in names] + [names[:3], ()]
            for told in rows:
                wanted = tuple([setting for setting in found if set(told) <= set(setting)])
                self.assertEqual(all_settings(each, told), wanted)
                self.assertEqual(count_settings(each, told), len(wanted))
                for place in range(len(wanted) + 2):
                    self.assertEqual(setting_at(each, place, told), wanted[place] if place < len(wanted) else None)

    def test_in_every_way(self):
        self.gives((("a", "d"), ("a", "e"), ("b", "d"), ("b", "e"), ("c",)), all_settings, BOW)
        self.gives((("a", "d"), ("b", "d")), all_settings, BOW, ("d",))
        self.gives((("b", "d"),), all_settings, BOW, told=("d", "b", "d"))
        self.gives((), all_settings, BOW, ("d", "c"))
        self.gives(5, count_settings, BOW)
        self.gives(2, count_settings, BOW, ("d",))
        self.gives(0, count_settings, BOW, ("a", "b"))
        self.gives(("c",), setting_at, BOW, 4)
        self.gives(None, setting_at, BOW, 5)
        self.gives(None, setting_at, BOW, 10 ** 6)
        self.gives(("b", "e"), setting_at, BOW, 1, ("e",))
        self.gives(("b", "e"), setting_at, BOW, 1, told=("e",))
        self.gives(3, place_of_setting, BOW, ("b", "e"))
        self.gives((), all_settings, K5)
        self.gives(0, count_settings, K5)
        self.gives(None, setting_at, K5, 0)

    def test_large_books(self):
        self.assertEqual(count_settings(EIGHT), 3 ** 8)
        self.assertEqual(count_settings(EIGHT, ("a", "x")), 3 ** 6)
        last = setting_at(EIGHT, 3 ** 8 - 1)
        self.assertEqual(last, tuple([room[-1] for room in EIGHT.rooms]))
        self.assertEqual(place_of_setting(EIGHT, last), 3 ** 8 - 1)
        self.assertEqual(place_of_setting(EIGHT, setting_at(EIGHT, 4321)), 4321)
        self.assertEqual(len(all_settings(apart(6, 4))), 4 ** 6)
        self.assertEqual(count_settings(star(10)), 1 + 2 ** 10)
        for each in LARGE:
            for setting in all_settings(each)[::97]:
                self.assertTrue(is_setting(each, setting))

    def test_wrong_places(self):
        for value in odd_values() + [10 ** 6 + 1, "1", (1,)]:
            self.fails(InvalidNumber("place"), setting_at, BOW, value)
            self.fails(InvalidNumber("place"), setting_at, BOW, value, None)

    def test_wrong_told(self):
        for function in [all_settings, count_settings]:
            for value in odd_values():
                if not isinstance(value, tuple):
                    self.fails(InvalidLook(-1), function, BOW, value)
                self.fails(InvalidLook(0), function, BOW, (value, None))
                self.fails(InvalidLook(2), function, BOW, ("a", "a", value))
            self.fails(InvalidLook(1), function, BOW, ("a", "z"))
            self.fails(InvalidLook(-1), function, BOW, "a")
        self.fails(InvalidLook(-1), setting_at, BOW, 0, ["a"])
        self.fails(InvalidLook(1), setting_at, BOW, 7, ("a", ("b",)))


if __name__ == "__main__":
    unittest.main()
