"""Settings that part sayings, and pictures: points [68] and [69]."""

import random
import unittest
from itertools import combinations

from common import Case, Thing, odd_values
from oracle import Model, rings, settings
from samples import (BOW, EIGHT, FANO, FIVE, GRID, HEXAGON, K5, LARGE, LINES, MIDDLE, ONE, PENTAGON, SMALL, SQUARE, TAILED, TORN,
                     TRIANGLE, TWO, UNLIKE, apart, book, made_books, plane, row_of, star)
from test_cases import are_cases, copy_of, plausible, spoilt
from roomlooks.cases import Cases
from roomlooks.errors import InvalidNumber, InvalidSaying, Refused
from roomlooks.pictures import (Pictured, Unpictured, check_between, check_pictured, fewest_points, is_picture, picture, pictured,
                                setting_between)

BOOKS = SMALL + MIDDLE + made_books(61, 15, 6)
# Two outcomes that are in no room together and in no setting together, and no rings of three.
LONELY = book("a b c\nc d e f\na g h\nb i j\nd g i\ne h j")


def setting_lots(each):
    return [setting for _, setting in settings(each.rooms)]


def holding(model, setting, saying):
    room, lot = model.forms[saying][0]
    return any([name in setting for name in lot])


def parting(each, model, one, other):
    return [s for s in setting_lots(each) if holding(model, s, one) and not holding(model, s, other)]


def are_reasons(each, model, one, other, value):
    """Whether a tuple of None and Cases shows by the words that no setting parts two sayings."""
    pairs = [(p, q) for p in one for q in model.opposite(other)]
    if type(value) is not tuple or len(value) != len(pairs):
        return False
    for (p, q), part in zip(pairs, value):
        excluded = p != q and any([p in room and q in room for room in each.rooms])
        if not (excluded if part is None else plausible(each, part) and are_cases(each, (p, q), part)):
            return False
    return True


def is_a_picture(each, model, found):
    """Whether settings, in order and each once, tell implying, by the words."""
    order = setting_lots(each)
    if not all([setting in order for setting in found]):
        return False
    places = [order.index(setting) for setting in found]
    if places != sorted(set(places)):
        return False
    held = {saying: {at for at, setting in enumerate(found) if holding(model, setting, saying)} for saying in model.sayings}
    return all([model.implies(a, b) == (held[a] <= held[b]) for a in model.sayings for b in model.sayings])


class BetweenTests(Case):
    def test_setting_or_reasons(self):
        chance = random.Random(1)
        kinds = []
        for each in BOOKS + [LONELY]:
            model = Model(each.rooms)
            for _ in range(25):
                one, other = chance.choice(model.sayings), chance.choice(model.sayings)
                found, wanted = setting_between(each, one, other), parting(each, model, one, other)
                kinds.append(wanted == [])
                if wanted:
                    self.assertEqual(found, wanted[0])
                else:
                    self.assertTrue(are_reasons(each, model, one, other, found))
                self.assertIs(check_between(each, one, other, found), True)
                for setting in setting_lots(each)[:12]:
                    self.assertIs(check_between(each, one, other, setting), setting in wanted)
        self.assertGreater(kinds.count(True), 50)
        self.assertGreater(kinds.count(False), 50)

    def test_in_every_way(self):
        self.gives(("a", "d"), setting_between, BOW, ("a",), ("c",))
        self.gives(("b", "d"), setting_between, BOW, ("b", "c"), ("c",))
        self.gives(("b", "e"), setting_between, BOW, ("b",), ("c", "d"))
        self.gives((None,), setting_between, BOW, ("a",), ("a", "b"))
        self.gives((None, None), setting_between, BOW, ("a", "b"), ("a", "b"))
        self.gives((), setting_between, BOW, (), ("a",))
        self.gives((), setting_between, BOW, ("a",), ("a", "b", "c"))
        self.gives(("c",), setting_between, BOW, ("a", "b", "c"), ("a", "b"))
        for each in [K5, TORN, LONELY, TRIANGLE, GRID]:
            sayings = Model(each.rooms).sayings
            for one, other in [(sayings[1], sayings[2]), (sayings[-1], sayings[0]), (sayings[5], sayings[-2])]:
                found = setting_between(each, one, other)
                self.gives(found, setting_between, each, one, other)
                self.gives(True, check_between, each, one, other, found)

    def test_books_without_a_setting(self):
        model, checked = Model(K5.rooms), 0
        for one, other in [(("a",), ("b",)), (model.all, ()), (model.sayings[15], model.sayings[30]), (("a",), model.opposite(("a",)))]:
            good = setting_between(K5, one, other)
            self.assertTrue(are_reasons(K5, model, one, other, good))
            for at, part in enumerate(good):
                others = [None, 0, ()] + list(spoilt(copy_of(part), 5) if part is not None else [])[::5]
                for changed in others:
                    value = good[:at] + (changed,) + good[at + 1:]
                    checked += 1
                    self.assertIs(check_between(K5, one, other, value), are_reasons(K5, model, one, other, value))
            for value in [good[1:], good + (None,), list(good), None]:
                self.gives(False, check_between, K5, one, other, value)
        self.assertGreater(checked, 100)

    def test_none_where_a_setting_could_be(self):
        for one, other in [(("a",), ("c",)), (("a",), ("d",)), (("a", "b", "c"), ()), (("b",), ("c", "d"))]:
            pairs = len(one) * len(Model(BOW.rooms).opposite(other))
            self.gives(False, check_between, BOW, one, other, (None,) * pairs)
        # Where "a" excludes "c" and "e", no setting parts it from the opposite of "c" or "e".
        self.gives(True, check_between, TRIANGLE, ("a",), ("d",), (None, None))
        # An outcome does not exclude itself.
        self.gives(False, check_between, BOW, ("a",), ("b", "c"), (None,))

    def test_any_value(self):
        good = setting_between(BOW, ("a",), ("a", "b"))
        self.assertTrue(check_between(BOW, ("a",), ("a", "b"), good))
        for value in odd_values():
            self.gives(False, check_between, BOW, ("a",), ("b",), value)
            self.gives(False, check_between, BOW, ("a",), ("a", "b"), value if value != (None,) else ())
            if value is not None:
                self.gives(False, check_between, BOW, ("a",), ("a", "b"), (value,))
            self.gives(value == (), check_between, BOW, (), ("b",), value)

    def test_wrong_sayings(self):
        for value in odd_values():
            if not isinstance(value, tuple):
                self.fails(InvalidSaying(-1), setting_between, BOW, value, None)
                self.fails(InvalidSaying(-1), check_between, BOW, ("a",), value, None)
            self.fails(InvalidSaying(1), setting_between, BOW, ("a", value), (value,))
            self.fails(InvalidSaying(1), setting_between, BOW, ("a",), ("b", value))
            self.fails(InvalidSaying(1), check_between, BOW, ("a", value), (value,), ("a", "d"))
        self.fails(InvalidSaying(2), setting_between, BOW, ("d", "e"), ("z",))


class TellingTests(Case):
    def test_when_settings_tell_implying(self):
        told = []
        for each in BOOKS + [LONELY]:
            model, lots = Model(each.rooms), setting_lots(each)
            names = each.outcomes()
            open_pairs = [(p, q) for p, q in combinations(names, 2) if each.room_of_two(p, q) is None]
            fits = all([any([p in s for s in lots]) for p in names]) and not rings(each.rooms, 3)
            fits = fits and all([any([p in s and q in s for s in lots]) for p, q in open_pairs])
            if len(model.sayings) < 60:
                self.assertEqual(fits, is_a_picture(each, model, lots))
            self.assertEqual(isinstance(pictured(each), Pictured), fits)
            told.append(fits)
        self.assertIn(True, told)
        self.assertIn(False, told)


class PicturedTests(Case):
    def test_classes(self):
        self.assertEqual(vars(Pictured(1)), {"settings": 1})
        self.assertEqual(vars(Pictured(settings=())), {"settings": ()})
        self.assertEqual(vars(Unpictured(1, 2, 3)), {"one": 1, "other": 2, "why": 3})
        self.assertEqual(vars(Unpictured(one=None, other=(), why="a")), {"one": None, "other": (), "why": "a"})

    def test_one_of_both(self):
        for each in BOOKS + [LONELY]:
            found, model = pictured(each), Model(each.rooms)
            if isinstance(found, Pictured):
                if len(model.sayings) < 70:
                    self.assertTrue(is_a_picture(each, model, found.settings))
                self.assertIs(is_picture(each, found.settings), True)
            else:
                self.assertFalse(model.implies(found.one, found.other))
                self.assertTrue(are_reasons(each, model, found.one, found.other, found.why))
            self.assertIs(check_pictured(each, found), True)

    def test_which_kind(self):
        for each in [ONE, BOW, TWO, SQUARE, PENTAGON, star(3), UNLIKE, row_of(10), EIGHT, apart(4, 5)]:
            self.assertIsInstance(pictured(each), Pictured)
        for each in [TRIANGLE, K5, TORN, FANO, TAILED, LONELY, LINES]:
            self.assertIsInstance(pictured(each), Unpictured)
        self.assertEqual(rings(LONELY.rooms, 3), ())

    def test_in_every_way(self):
        for each in [ONE, BOW, TRIANGLE, K5, LONELY, HEXAGON, UNLIKE, FIVE] + LARGE:
            found = pictured(each)
            self.gives(found, pictured, each)
            self.gives(True, check_pictured, each, found)

    def test_unpictured_of_every_pair(self):
        for each in [TRIANGLE, LONELY, book("a b c\nc d e\na e f\nb d g")]:
            model, passed = Model(each.rooms), 0
            for one in model.sayings:
                for other in model.sayings[::2]:
                    why = setting_between(each, one, other)
                    wanted = not model.implies(one, other) and not parting(each, model, one, other)
                    passed += wanted
                    self.assertIs(check_pictured(each, Unpictured(one, other, why)), wanted)
            self.assertGreater(passed, 0)

    def test_spoilt(self):
        for each in [TRIANGLE, LONELY, K5]:
            good, model = pictured(each), Model(each.rooms)
            for name in vars(good):
                others = [None, (), ("z",), list(good.one), good.why, list(good.why), good.why[1:], good.why + (None,), good.one, good.other]
                for other in others + model.sayings + setting_lots(each):
                    value = Unpictured(**{**vars(good), name: other})
                    wanted = type(value.one) is tuple and value.one in model.lots and type(value.other) is tuple and value.other in model.lots
                    wanted = wanted and not model.implies(value.one, value.other)
                    wanted = wanted and are_reasons(each, model, value.one, value.other, value.why)
                    self.assertIs(check_pictured(each, value), wanted)
        # A setting that parts two sayings does not show that none does.
        self.gives(False, check_pictured, BOW, Unpictured(("a",), ("c",), ("a", "d")))
        self.gives(False, check_pictured, BOW, Unpictured(("a",), ("a", "b"), (None,)))

    def test_any_value(self):
        good = pictured(TRIANGLE)
        for value in odd_values() + [Thing(**vars(good)), Thing(settings=pictured(BOW).settings), pictured(BOW).settings]:
            for each in (BOW, TRIANGLE):
                self.gives(False, check_pictured, each, value)
                self.gives(False, is_picture, each, value if value != pictured(BOW).settings else None)
                if value != pictured(BOW).settings:
                    self.gives(False, check_pictured, each, Pictured(value))
                    self.gives(False, check_pictured, each, Pictured((value,)))
            for name in vars(good):
                self.gives(False, check_pictured, TRIANGLE, Unpictured(**{**vars(good), name: value}))
        self.gives(False, check_pictured, BOW, Unpictured(good.one, good.other, Cases(0, ())))


class PictureTests(Case):
    def test_all_rows_of_settings(self):
        for each in [ONE, BOW, star(3), TRIANGLE, SQUARE, book("a b c d\nd e f")]:
            model, lots, passed = Model(each.rooms), setting_lots(each), 0
            for many in range(7):
                for row in list(combinations(lots, many))[:150] + [tuple(lots)]:
                    wanted = is_a_picture(each, model, row)
                    passed += wanted
                    self.assertIs(is_picture(each, row), wanted)
            self.assertEqual(passed > 0, each is not TRIANGLE)

    def test_spoilt(self):
        good = pictured(BOW).settings
        self.gives(True, is_picture, BOW, good)
        for value in [good[::-1], good + good[-1:], good[1:], list(good), (list(good[0]),) + good[1:], good[:1] + good, good + (("z",),),
                      None, (), good[1:] + good[:1], (good[0][::-1],) + good[1:]]:
            self.gives(False, is_picture, BOW, value)

    def test_places(self):
        for each in [BOW, TRIANGLE, GRID, UNLIKE]:
            model, lots = Model(each.rooms), setting_lots(each)
            for saying in model.sayings[::3]:
                row = tuple(lots[::-2])
                wanted = tuple([at for at, setting in enumerate(row) if holding(model, setting, saying)])
                self.gives(wanted, picture, each, row, saying)
        self.gives((0, 2), picture, BOW, (("c",), ("a", "d"), ("c",)), ("b", "c"))
        self.gives((), picture, BOW, (), ("a",))

    def test_wrong_places(self):
        for value in odd_values() + [("c",), (("c",), ("a",)), (("a", "c"),), [("c",)], (["c"],), (("d", "a"),)]:
            if value == ():
                continue
            self.fails(Refused("setting"), picture, BOW, value, ("a",))
            self.fails(Refused("setting"), picture, BOW, (("c",), value if value != ("c",) else ()), None)
        for value in odd_values():
            if not isinstance(value, tuple):
                self.fails(InvalidSaying(-1), picture, BOW, (("c",),), value)
            self.fails(InvalidSaying(1), picture, BOW, (), ("a", value))


class FewestTests(Case):
    def test_by_trying_all(self):
        for each in [ONE, FIVE, BOW, star(3), star(4), TRIANGLE, TWO, book("a b c d\nd e f"), LONELY] + made_books(62, 20, 4):
            lots, model = setting_lots(each), Model(each.rooms)
            if len(lots) > 10 or len(model.sayings) > 50:
                continue
            least = [many for many in range(7) if any([is_a_picture(each, model, row) for row in combinations(lots, many)])]
            for most in range(7):
                found = fewest_points(each, most=most)
                if least and least[0] <= most:
                    self.assertEqual(len(found), least[0])
                    self.assertTrue(is_a_picture(each, model, found))
                else:
                    self.assertIsNone(found)

    def test_in_every_way(self):
        self.gives((("a",), ("b",), ("c",)), fewest_points, ONE)
        self.gives(None, fewest_points, ONE, most=2)
        self.gives(None, fewest_points, FIVE)
        self.gives((("a",), ("b",), ("c",), ("d",), ("e",)), fewest_points, FIVE, most=5)
        self.gives(None, fewest_points, BOW)
        self.gives(fewest_points(BOW, most=5), fewest_points, BOW, most=5)
        self.gives(fewest_points(star(4), most=6), fewest_points, star(4), most=6)
        self.assertEqual(len(fewest_points(star(4), most=6)), 6)
        self.gives(None, fewest_points, star(5), most=6)
        self.gives(None, fewest_points, star(4), most=5)
        for each in [TRIANGLE, K5, TORN, FANO]:
            self.gives(None, fewest_points, each, most=6)
        self.gives(None, fewest_points, star(6), most=4)
        self.gives(None, fewest_points, apart(4), most=6)

    def test_bounds(self):
        # Rooms that share nothing have as many settings as the product of their sizes.
        self.gives(None, fewest_points, book("a b c d e\nf g h i\nj k l m n"), most=6)
        hundred = book("a b c d e\nf g h i j\nk l m n")
        self.assertEqual(len(setting_lots(hundred)), 100)
        self.gives(None, fewest_points, hundred)
        more = book("a b c d\nd e f g\na h i\na j k l m\ne n o")
        self.assertEqual(len(setting_lots(more)), 101)
        for each in [more, book("a b c d e\nf g h i j\nk l m n o"), star(7), EIGHT, row_of(9)]:
            self.assertGreater(len(setting_lots(each)), 100)
            self.fails(Refused("wide"), fewest_points, each)
            self.fails(Refused("wide"), fewest_points, each, most=0)
        # Also where no picture can be.
        wide = book("a b c\nc d e\na e f\ng h i\nj k l\nm n o")
        self.assertGreater(len(setting_lots(wide)), 100)
        self.fails(Refused("wide"), fewest_points, wide)

    def test_wrong_most(self):
        for value in odd_values() + [7, -1, "4", (4,), 4.0]:
            self.fails(InvalidNumber("most"), fewest_points, BOW, most=value)
            self.fails(InvalidNumber("most"), fewest_points, EIGHT, most=value)

    def test_planes(self):
        for each in [plane(2, 3), plane(3, 4)]:
            self.gives(None, fewest_points, each, most=6)


if __name__ == "__main__":
    unittest.main()
