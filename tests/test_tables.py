"""Joins and meets: the opening of chapter 6, points [23], [24] and [28]; the class of [26]."""

import unittest
from itertools import permutations

from common import Case
from oracle import Model, short_rings_of
from samples import BOW, FIVE, HEXAGON, ONE, PENTAGON, SMALL, TWO, UNLIKE, apart, book, made_houses, ring_of, row_of, star
from roomlooks.full import least_full
from roomlooks.sayings import all_sayings, opposite, whole
from roomlooks.tables import join, join_all, meet, meet_all
from roomlooks.verdicts import House

HOUSES = ([each for each in SMALL if not short_rings_of(each.rooms)]
          + [FIVE, PENTAGON, HEXAGON, ring_of(5, 4), row_of(4, 4), star(4, 4), apart(2, 5), least_full(3, 5)]
          + made_houses(2, 12))


class HouseTests(unittest.TestCase):
    def test_house(self):
        self.assertEqual(vars(House(BOW)), {"book": BOW})
        self.assertEqual(vars(House(book=None)), {"book": None})
        self.assertFalse(House(BOW) == House(BOW))


class JoinTests(Case):
    def test_joins_and_meets(self):
        for each in HOUSES:
            model, house = Model(each.rooms), House(each)
            step = 1 + len(model.sayings) // 25
            for one in model.sayings:
                for other in model.sayings[len(one)::step]:
                    self.assertEqual(join(house, one, other), model.join(one, other))
                    self.assertEqual(meet(house, one, other), model.meet(one, other))

    def test_all_pairs_of_small_houses(self):
        for each in [ONE, TWO, BOW, UNLIKE, PENTAGON, star(3)]:
            model, house = Model(each.rooms), House(each)
            for one in model.sayings:
                for other in model.sayings:
                    self.assertEqual(join(house, one, other), model.join(one, other))
                    self.assertEqual(meet(house, one, other), model.meet(one, other))

    def test_in_every_way(self):
        house = House(book("a b c\nc d e\ne f g"))
        self.gives(("a", "b"), join, house, ("a",), ("d",))
        self.gives(("a", "b", "c"), join, house, ("a",), ("f",))
        self.gives(("c", "d"), join, house, ("c",), ("d",))
        self.gives(("c", "d"), join, house, ("c",), ("f",))
        self.gives((), meet, house, ("a",), ("d",))
        self.gives(("c",), meet, house, ("a", "c"), ("c", "d"))
        self.gives(("e",), meet, house, ("c", "e"), ("e", "f"))
        self.gives(("c", "d"), meet, house, ("a", "b", "c"), ("c", "d"))
        self.gives(("a",), join, house, (), ("a",))
        self.gives((), meet, house, (), ("a",))

    def test_by_the_words(self):
        # Both lots together, else the opposite of the outcome out of both, else all.
        for each in HOUSES[:10]:
            model, house = Model(each.rooms), House(each)
            for one in model.sayings[::3]:
                for other in model.sayings[::3]:
                    rooms = model.together(one, other)
                    out = [p for p in each.outcomes() if model.excludes((p,), one) and model.excludes((p,), other)]
                    if rooms:
                        lots = set(dict(model.forms[one])[rooms[0]]) | set(dict(model.forms[other])[rooms[0]])
                        wanted = model.saying(rooms[0], tuple(sorted(lots)))
                    else:
                        self.assertLess(len(out), 2)
                        wanted = model.opposite((out[0],)) if out else model.all
                    self.assertEqual(join(house, one, other), wanted)
                    turned = join(house, opposite(each, one), opposite(each, other))
                    self.assertEqual(meet(house, one, other), opposite(each, turned))


class ManyTests(Case):
    def test_of_none(self):
        for each in [ONE, BOW, PENTAGON]:
            self.gives((), join_all, House(each), ())
            self.gives(whole(each), meet_all, House(each), ())

    def test_in_any_sequence(self):
        for each in [BOW, PENTAGON, UNLIKE]:
            house, sayings = House(each), all_sayings(each)
            for at in range(len(sayings)):
                rows = [sayings[at], sayings[(3 * at + 1) % len(sayings)], sayings[(7 * at + 2) % len(sayings)]]
                joins = set([join_all(house, row) for row in permutations(rows)])
                meets = set([meet_all(house, row) for row in permutations(rows)])
                self.assertEqual(joins, {join(house, join(house, *rows[:2]), rows[2])})
                self.assertEqual(meets, {meet(house, meet(house, *rows[:2]), rows[2])})
                self.gives(sayings[at], join_all, house, (sayings[at],))
                self.gives(sayings[at], meet_all, house, (sayings[at], sayings[at]))

    def test_in_every_way(self):
        house = House(BOW)
        self.gives(("a", "b"), join_all, house, (("a",), ("d",), ()))
        self.gives(("a", "b", "c"), join_all, house, tuple([(name,) for name in BOW.outcomes()]))
        self.gives((), meet_all, house, (("a", "b"), ("c", "d"), ("c", "e")))
        self.gives(("c",), meet_all, house, (("a", "c"), ("c", "d"), ("c", "e")))


if __name__ == "__main__":
    unittest.main()
