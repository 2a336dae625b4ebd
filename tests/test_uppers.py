"""Least uppers and greatest lowers: the opening of chapter 6 and point [29]."""

import random
import unittest
from itertools import combinations

from common import Case, odd_values
from oracle import Model, rings, short_rings_of
from samples import (BOW, FANO, FIVE, FIVES, GRID, HEXAGON, K5, LARGE, LINES, MIDDLE, ONE, PENTAGON, SMALL, SQUARE, TORN, TRIANGLE, TWO,
                     book, made_books, made_houses)
from roomlooks.texts import read_book
from roomlooks.uppers import greatest_below, is_join, is_meet, least_above, least_above_all, most_above

BOOKS = SMALL + MIDDLE + made_books(64, 25, 6) + made_houses(65, 5, 5)


def least(model, sayings):
    uppers = [s for s in model.sayings if all([model.implies(saying, s) for saying in sayings])]
    return tuple([s for s in uppers if not any([t != s and model.implies(t, s) for t in uppers])])


def greatest(model, sayings):
    lowers = [s for s in model.sayings if all([model.implies(s, saying) for saying in sayings])]
    return tuple([s for s in lowers if not any([t != s and model.implies(s, t) for t in lowers])])


def by_the_rule(each, model, one, other):
    """The least uppers as point [29] tells them."""
    if model.implies(one, other) or model.implies(other, one):
        return (other,) if model.implies(one, other) else (one,)
    rooms, found = model.together(one, other), []
    if rooms:
        lots = [dict(model.forms[saying])[rooms[0]] for saying in (one, other)]
        found.append(model.saying(rooms[0], tuple(sorted(set(lots[0] + lots[1])))))
    for outcome in each.outcomes():
        out = model.excludes((outcome,), one) and model.excludes((outcome,), other)
        if out and not (rooms and outcome in each.rooms[rooms[0]]):
            found.append(model.opposite((outcome,)))
    return tuple(sorted(set(found), key=lambda lot: (len(lot), lot))) or (model.all,)


class UpperTests(Case):
    def test_two_sayings(self):
        chance, lengths = random.Random(1), []
        for each in BOOKS:
            model = Model(each.rooms)
            for _ in range(40):
                one, other = chance.choice(model.sayings), chance.choice(model.sayings)
                wanted = least(model, (one, other))
                lengths.append(len(wanted))
                self.assertEqual(least_above(each, one, other), wanted)
                self.assertEqual(by_the_rule(each, model, one, other), wanted)
                self.assertEqual(greatest_below(each, one, other), greatest(model, (one, other)))
        self.assertIn(2, lengths)
        self.assertIn(3, lengths)

    def test_all_pairs(self):
        for each in [ONE, BOW, TWO, TRIANGLE, SQUARE, book("a b c d\nd e f\na f g")]:
            model = Model(each.rooms)
            for one in model.sayings:
                for other in model.sayings:
                    self.assertEqual(least_above(each, one, other), least(model, (one, other)))
                    self.assertEqual(greatest_below(each, one, other), greatest(model, (one, other)))

    def test_many_sayings(self):
        chance = random.Random(2)
        for each in BOOKS:
            model = Model(each.rooms)
            for many in (0, 1, 3, 3, 4):
                sayings = tuple([chance.choice(model.sayings) for _ in range(many)])
                self.assertEqual(least_above_all(each, sayings), least(model, sayings))
            self.assertEqual(least_above_all(each, ()), ((),))

    def test_example(self):
        each = read_book("a b c\nc d e\na e f")
        self.gives((("a", "c"), ("c", "d")), least_above, each, ("a",), ("c",))

    def test_in_every_way(self):
        # One implies the other; they stand together; they do not; none.
        self.gives((("a", "b"),), least_above, BOW, ("a",), ("a", "b"))
        self.gives((("a", "b"),), least_above, BOW, ("a", "b"), ("a",))
        self.gives((("a", "b"),), least_above, BOW, ("a",), ("b",))
        self.gives((("a", "b"),), least_above, BOW, ("a",), ("d",))
        self.gives((("a", "b", "c"),), least_above, TWO, ("a",), ("d",))
        self.gives((("a",),), least_above, BOW, (), ("a",))
        self.gives(((),), least_above, BOW, (), ())
        self.gives((("a", "b", "c"),), least_above, BOW, ("a", "b", "c"), ("d",))
        self.gives(((),), greatest_below, BOW, ("a",), ("d",))
        self.gives((("c",),), greatest_below, BOW, ("a", "c"), ("c", "d"))
        self.gives((("a", "b"),), greatest_below, BOW, ("a", "b"), ("a", "b", "c"))
        self.gives(((),), least_above_all, BOW, ())
        self.gives((("c", "d"),), least_above_all, BOW, (("c", "d"),))
        self.gives((("a", "b", "c"),), least_above_all, BOW, (("a",), ("c",), ("d",)))
        for each in [TRIANGLE, SQUARE, FANO, K5]:
            sayings = Model(each.rooms).sayings
            for one, other in [(sayings[1], sayings[3]), (sayings[2], sayings[-2]), (sayings[1], sayings[-1])]:
                self.gives(least_above(each, one, other), least_above, each, one, other)
                self.gives(greatest_below(each, one, other), greatest_below, each, one, other)
                self.gives(least_above_all(each, (one, other)), least_above_all, each, (one, other))


class MostTests(Case):
    def test_most(self):
        for each in BOOKS + [LINES]:
            model = Model(each.rooms)
            if len(model.sayings) > 70:
                continue
            wanted = max([len(least(model, pair)) for pair in combinations(model.sayings, 2)])
            self.assertEqual(most_above(each), wanted)

    def test_bounds(self):
        for each in BOOKS + LARGE:
            found = most_above(each)
            self.assertEqual(found == 1, not short_rings_of(each.rooms))
            self.assertLessEqual(found, 20)
            if not rings(each.rooms, 3):
                self.assertLessEqual(found, 5)

    def test_in_every_way(self):
        for each, wanted in [(ONE, 1), (BOW, 1), (PENTAGON, 1), (HEXAGON, 1), (TRIANGLE, 2), (SQUARE, 2), (GRID, 2), (FIVE, 1)]:
            self.gives(wanted, most_above, each)
        for each in [LINES, FIVES, FANO, TORN]:
            self.gives(most_above(each), most_above, each)
        # Two outcomes, and five that are in a room with each of them.
        five = book("\n".join(["a %s %s" % pair for pair in zip("cdefg", "hijkl")] + ["b %s %s" % pair for pair in zip("cdefg", "mnopq")]))
        self.assertEqual(rings(five.rooms, 3), ())
        self.gives(5, most_above, five)
        self.gives((("a", "h"), ("a", "i"), ("a", "j"), ("a", "k"), ("a", "l")), least_above, five, ("a",), ("b",))


class JoinTests(Case):
    def test_joins_and_meets(self):
        for each in [BOW, TRIANGLE, SQUARE, PENTAGON, TWO]:
            model, chance = Model(each.rooms), random.Random(3)
            for _ in range(30):
                one, other = chance.choice(model.sayings), chance.choice(model.sayings)
                for value in model.sayings:
                    self.assertIs(is_join(each, one, other, value), model.join(one, other) == value)
                    self.assertIs(is_meet(each, one, other, value), model.meet(one, other) == value)

    def test_in_every_way(self):
        self.gives(True, is_join, BOW, ("a",), ("d",), ("a", "b"))
        self.gives(False, is_join, BOW, ("a",), ("d",), ("a", "b", "c"))
        self.gives(False, is_join, BOW, ("a",), ("d",), ("d", "e"))
        self.gives(True, is_meet, BOW, ("a", "c"), ("c", "d"), ("c",))
        self.gives(False, is_meet, BOW, ("a", "c"), ("c", "d"), ())
        # Two least uppers, so neither is the join.
        for value in [("a", "c"), ("c", "d"), ("a", "b", "c")]:
            self.gives(False, is_join, TRIANGLE, ("a",), ("c",), value)

    def test_any_value(self):
        for value in odd_values() + [["a", "b"], ("b", "a"), ("a", "b", "z"), ("a", ("b",))]:
            self.gives(False, is_join, BOW, ("a",), ("b",), value)
            self.gives(False, is_meet, BOW, ("a", "b"), ("a", "c"), value)

    def test_values_that_are_equal_to_all(self):
        class Any:
            def __eq__(self, other):
                return True

            def __hash__(self):
                return 0

        self.assertIs(is_join(BOW, ("a",), ("b",), Any()), False)
        self.assertIs(is_meet(BOW, ("a", "b"), ("a", "c"), Any()), False)


if __name__ == "__main__":
    unittest.main()
