"""Sayings together: the opening of chapter 7, points [35] and [36]."""

import unittest
from itertools import combinations

from common import Case
from oracle import Model, short_rings_of
from samples import (BOW, FANO, FIVE, GRID, HEXAGON, LARGE, MIDDLE, ONE, PENTAGON, SMALL, TRIANGLE, TWO, UNLIKE, apart,
                     book, made_books, made_houses, ring_of, star)
from roomlooks.pairs import are_together, common_rooms, core, count_together, shade
from roomlooks.texts import read_book
from roomlooks.verdicts import House, court

HOUSES = ([each for each in SMALL if not short_rings_of(each.rooms)]
          + [FIVE, PENTAGON, HEXAGON, star(3, 4)] + made_houses(31, 6, 4))


def some_pairs(model):
    step = 1 + len(model.sayings) // 8
    for one in model.sayings[::step]:
        for other in model.sayings:
            yield one, other


class CoreTests(Case):
    def test_example(self):
        house = court(read_book("a b c\nc d e\ne f g"))
        self.gives(("c",), core, house, ("b", "c"), ("c", "d"))
        self.gives(("b",), shade, house, ("b", "c"), ("e",))

    def test_cores(self):
        for each in HOUSES:
            model, house = Model(each.rooms), House(each)
            for one, other in some_pairs(model):
                corners = [model.meet(x, y) for x in (one, model.opposite(one)) for y in (other, model.opposite(other))]
                wanted = ()
                for corner in corners:
                    wanted = model.join(wanted, corner)
                self.assertEqual(core(house, one, other), wanted)
                # The first saying is the join of its corners exactly if the two stand together.
                rooms = model.together(one, other)
                self.assertEqual(model.join(corners[0], corners[1]) == one, rooms != ())
                self.assertEqual(wanted == model.all, rooms != ())
                self.assertTrue(rooms or wanted == () or wanted[0] in each.shared() and len(wanted) == 1)

    def test_shades(self):
        for each in HOUSES:
            model, house = Model(each.rooms), House(each)
            for one, other in some_pairs(model):
                found = shade(house, one, other)
                self.assertEqual(found, model.meet(one, model.join(model.opposite(one), other)))
                self.assertEqual(found, model.meet(one, model.opposite(model.meet(one, model.opposite(other)))))
                together = model.together(one, other) != ()
                self.assertEqual(model.implies(found, other), together)
                self.assertEqual(found == model.meet(one, other), together)
                self.assertEqual(found == shade(house, other, one), together)

    def test_in_every_way(self):
        house = House(BOW)
        self.gives(("a", "b", "c"), core, house, ("a",), ("a", "c"))
        self.gives(("c",), core, house, ("a",), ("d",))
        self.gives((), core, House(PENTAGON), ("f",), ("h",))
        self.gives(("d",), core, House(PENTAGON), ("h",), ("i",))
        self.gives(("a",), shade, house, ("a",), ("d",))
        self.gives((), shade, house, ("a",), ())


class ManyTests(Case):
    def test_common_rooms(self):
        for each in SMALL + MIDDLE + made_books(32, 15):
            model = Model(each.rooms)
            some = model.sayings[::1 + len(model.sayings) // 9]
            for many in range(4):
                for row in combinations(some, many):
                    homes = [set([room for room, _ in model.forms[saying]]) for saying in row]
                    rooms = [room for room in range(len(each.rooms)) if all([room in own for own in homes])]
                    self.assertEqual(common_rooms(each, row), tuple(rooms))
                    together = all([model.together(a, b) for a, b in combinations(row, 2)])
                    self.assertIs(are_together(each, row), together)

    def test_in_every_way(self):
        for each in [ONE, BOW, TRIANGLE, GRID, LARGE[0]]:
            self.gives(tuple(range(len(each.rooms))), common_rooms, each, ())
            self.gives(True, are_together, each, ())
        self.gives((0, 1), common_rooms, BOW, (("c",), ("a", "b"), ()))
        self.gives((1,), common_rooms, BOW, (("c",), ("c", "e"), ("d",)))
        self.gives((), common_rooms, BOW, (("a",), ("d",)))
        self.gives(True, are_together, BOW, (("a",), ("a",), ("a", "b", "c")))
        self.gives(False, are_together, BOW, (("a",), ("c",), ("d",)))

    def test_outcomes_of_a_ring_of_three(self):
        self.gives(True, are_together, TRIANGLE, (("a",), ("c",), ("e",)))
        self.gives((), common_rooms, TRIANGLE, (("a",), ("c",), ("e",)))
        self.gives(True, are_together, FANO, tuple([(name,) for name in FANO.outcomes()]))

    def test_a_room_in_common(self):
        # Without rings of three, sayings that stand two by two together have a room in common.
        for each in [BOW, UNLIKE, PENTAGON, GRID, TWO, ring_of(4), star(3)]:
            model = Model(each.rooms)
            for row in combinations(model.sayings[::2], 3):
                self.assertEqual(are_together(each, row), common_rooms(each, row) != ())

    def test_how_many(self):
        self.gives(112, count_together, BOW)
        self.gives(64, count_together, ONE)
        self.gives(1024, count_together, FIVE)
        for each in SMALL + MIDDLE + [FANO] + made_books(33, 15):
            model = Model(each.rooms)
            wanted = [(a, b) for a in model.sayings for b in model.sayings if model.together(a, b)]
            self.assertEqual(count_together(each), len(wanted))
        for each in LARGE:
            self.gives(count_together(each), count_together, each)
        self.gives(2 * 4 ** 3 - 4, count_together, book("a b c\nd e f"))


if __name__ == "__main__":
    unittest.main()
