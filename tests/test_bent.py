"""Straight and bent rows: the opening of chapter 8, points [48] and [49]."""

import unittest

from common import Case, Thing, odd_values
from oracle import Model, short_rings_of
from samples import (BOW, FIVE, HEXAGON, MIDDLE, ONE, PENTAGON, SMALL, TWO, UNLIKE, apart, book, made_houses, ring_of, row_of,
                     star)
from roomlooks.bent import Bent, Straight, check_straightness, count_straight, straight_court, straight_door, straight_sides
from roomlooks.errors import Refused
from roomlooks.full import least_full
from roomlooks.texts import read_book
from roomlooks.verdicts import House, court

FOUR = book("a b c d")
# All rooms go through "p", but one has four outcomes.
WIDE = book("a b p\nc d p\ne f g p")
HOUSES = ([each for each in SMALL if not short_rings_of(each.rooms)] + [FOUR, WIDE, FIVE, PENTAGON, HEXAGON, apart(2, 4)]
          + made_houses(51, 8, 4))


def doors_of(model, low, high, other):
    """The open doors by the words."""
    less = model.meet(high, model.opposite(low))
    opened = [model.together(less, other) != (), not model.together(low, model.meet(high, other)),
              not model.together(high, model.join(low, other))]
    return [door for door in range(3) if opened[door]]


def rows_of(model, step):
    for low in model.sayings:
        for high in model.up(low)[::step]:
            for other in model.sayings[::step]:
                yield low, high, other


def is_straight_house(each):
    if len(each.rooms) == 1:
        return True
    return all([len(room) == 3 for room in each.rooms]) and any(
        [len(each.rooms_of(name)) == len(each.rooms) for name in each.outcomes()])


class RowTests(Case):
    def test_sides_and_doors(self):
        for each in HOUSES:
            model, house = Model(each.rooms), House(each)
            for low, high, other in rows_of(model, 1 + len(model.sayings) // 12):
                first = model.meet(high, model.join(low, other))
                second = model.join(low, model.meet(high, other))
                self.assertEqual(straight_sides(house, low, high, other), (first, second))
                self.assertTrue(model.implies(second, first))
                doors = doors_of(model, low, high, other)
                self.assertEqual(straight_door(house, low, high, other), (doors + [None])[0])
                self.assertLess(len(doors), 2)
                self.assertEqual(first == second, doors != [])

    def test_each_door(self):
        house = court(read_book("a b c\nc d e\ne f g\ng h i\ni j a"))
        self.gives(1, straight_door, house, ("a",), ("a", "b"), ("e",))
        found = {}
        model = Model(house.book.rooms)
        for low, high, other in rows_of(model, 1):
            door = straight_door(house, low, high, other)
            found.setdefault(door, (low, high, other))
        self.assertEqual(set(found), {0, 1, 2, None})
        for door in found:
            self.gives(door, straight_door, house, *found[door])
            first, second = straight_sides(house, *found[door])
            self.gives((first, second), straight_sides, house, *found[door])
            self.assertEqual(first == second, door is not None)

    def test_in_every_way(self):
        house = House(FOUR)
        self.gives(0, straight_door, house, ("a",), ("a", "b"), ("c",))
        self.gives((("a",), ("a",)), straight_sides, house, ("a",), ("a", "b"), ("c",))
        self.gives(0, straight_door, house, (), (), ())
        bow = House(UNLIKE)
        self.gives(straight_door(bow, ("a",), ("a", "b"), ("d",)), straight_door, bow, ("a",), ("a", "b"), ("d",))

    def test_wrong_order(self):
        for each in [ONE, BOW, PENTAGON]:
            model, house = Model(each.rooms), House(each)
            for low in model.sayings[::3]:
                for high in model.sayings[::3]:
                    if not model.implies(low, high):
                        self.fails(Refused("order"), straight_sides, house, low, high, ())
                        self.fails(Refused("order"), straight_door, house, low, high, model.all)


class CountTests(Case):
    def test_counts(self):
        for each in HOUSES:
            model = Model(each.rooms)
            if len(model.sayings) > 32:
                continue
            house, counts = House(each), [0, 0, 0]
            for low, high, other in rows_of(model, 1):
                for door in doors_of(model, low, high, other):
                    counts[door] += 1
            self.assertEqual(count_straight(house), tuple(counts))

    def test_in_every_way(self):
        self.gives((1226, 360, 360), count_straight, court(read_book("a b c\nc d e\ne f g\ng h i\ni j a")))
        for each, many in [(ONE, 27 * 8), (FIVE, 243 * 32)]:
            self.gives((many, 0, 0), count_straight, House(each))
        for each in [TWO, row_of(10), star(10), least_full(3, 5), apart(2, 5)]:
            found = count_straight(House(each))
            self.assertEqual(found[1], found[2])
            self.gives(found, count_straight, House(each))


class CourtTests(Case):
    def test_classes(self):
        self.assertEqual(vars(Straight("a")), {"pivot": "a"})
        self.assertEqual(vars(Straight(pivot=())), {"pivot": ()})
        self.assertEqual(vars(Bent(1, 2, 3)), {"low": 1, "high": 2, "other": 3})
        self.assertEqual(vars(Bent(low=None, high=[], other="a")), {"low": None, "high": [], "other": "a"})

    def test_courts(self):
        more = [each for each in MIDDLE if not short_rings_of(each.rooms)]
        for each in HOUSES + more + [star(2), star(10), star(3, 4), row_of(10), ring_of(10), least_full(3, 5)]:
            house = House(each)
            found = straight_court(house)
            self.assertIs(check_straightness(house, found), True)
            self.assertEqual(isinstance(found, Straight), is_straight_house(each))
            if isinstance(found, Bent):
                self.assertIsNone(straight_door(house, found.low, found.high, found.other))
                if len(each.outcomes()) < 12:
                    self.assertEqual(doors_of(Model(each.rooms), found.low, found.high, found.other), [])
            elif len(each.rooms) == 1:
                self.assertIsNone(found.pivot)
            else:
                self.assertEqual(len(each.rooms_of(found.pivot)), len(each.rooms))
            if len(each.outcomes()) < 6:
                self.assertIsInstance(found, Straight)

    def test_in_every_way(self):
        self.gives(Straight("c"), straight_court, court(read_book("a b c\nc d e")))
        self.gives(Straight(None), straight_court, House(ONE))
        self.gives(Straight(None), straight_court, House(FIVE))
        self.gives(Straight("a"), straight_court, House(star(10)))
        for each in [TWO, WIDE, UNLIKE, PENTAGON]:
            self.gives(straight_court(House(each)), straight_court, House(each))
            self.gives(True, check_straightness, House(each), straight_court(House(each)))

    def test_check_pivots(self):
        for each in HOUSES + [star(3)]:
            for pivot in each.outcomes() + (None, "z", "", 0, True, ("a",), [], ("c",)):
                wanted = pivot is None and len(each.rooms) == 1
                if isinstance(pivot, str) and all([len(room) == 3 and pivot in room for room in each.rooms]):
                    wanted = True
                self.gives(wanted, check_straightness, House(each), Straight(pivot))

    def test_check_bent(self):
        for each in [ONE, BOW, TWO, UNLIKE, book("a b c\nc d e f")]:
            model, house = Model(each.rooms), House(each)
            for low in model.sayings[::2]:
                for high in model.sayings:
                    for other in model.sayings[::3]:
                        wanted = model.implies(low, high) and doors_of(model, low, high, other) == []
                        self.assertIs(check_straightness(house, Bent(low, high, other)), wanted)

    def test_spoilt(self):
        house = House(UNLIKE)
        good = straight_court(house)
        for name in vars(good):
            for other in odd_values() + [list(good.low), ("a", "z"), ("h", "i", "j", "z"), ("d", "e", "f"), "a"]:
                self.gives(False, check_straightness, house, Bent(**{**vars(good), name: other}))
        self.gives(True, check_straightness, house, good)
        self.gives(False, check_straightness, house, Bent(good.high, good.low, good.other))
        self.gives(False, check_straightness, House(ONE), good)

    def test_any_value(self):
        good = straight_court(House(UNLIKE))
        for value in odd_values() + [Thing(pivot=None), Thing(**vars(good)), ("c",), "c"]:
            self.gives(False, check_straightness, House(UNLIKE), value)
            self.gives(False, check_straightness, House(ONE), value)
            self.gives(value == "c", check_straightness, House(BOW), Straight(value))
            self.gives(value == "c" or value is None, check_straightness, House(ONE), Straight(value))


if __name__ == "__main__":
    unittest.main()
