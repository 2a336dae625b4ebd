"""Looks: the opening of chapter 12, points [72] and [73], and [77] for `bridges`."""

import unittest

from common import Case, odd_values
from oracle import Model, rings, short_rings_of
from samples import (BOW, FANO, FIVE, GRID, LARGE, MIDDLE, ONE, SMALL, SQUARE, TRIANGLE, TWO, apart, book, made_books,
                     made_houses, star)
from roomlooks.errors import InvalidNumber, InvalidSaying, Refused
from roomlooks.looks import (bridges, can_follow, count_sure, next_outcomes, shown_next, state_after, sure_after,
                             unimplied_look)

BOOKS = SMALL + MIDDLE + made_books(6, 20)


def follows(each, one, other):
    return one == other or not any([one in room and other in room for room in each.rooms])


def no_outcomes():
    return odd_values() + ["z", 0, ("a",)]


class AfterTests(Case):
    def test_states(self):
        for each in BOOKS:
            model = Model(each.rooms)
            for name in each.outcomes():
                sure = []
                for saying in model.sayings:
                    state = state_after(each, name, saying)
                    if model.implies((name,), saying):
                        sure.append(saying)
                        self.assertEqual(state, "sure")
                    else:
                        out = model.implies((name,), model.opposite(saying))
                        self.assertEqual(state, "out" if out else "open")
                self.assertEqual(sure_after(each, name), tuple(sure))
                self.assertEqual(count_sure(each, name), len(sure))

    def test_in_every_way(self):
        self.gives("sure", state_after, BOW, "a", ("a", "b"))
        self.gives("out", state_after, BOW, "a", ("c",))
        self.gives("open", state_after, BOW, "a", ("d",))
        self.gives("sure", state_after, BOW, "a", ("a", "b", "c"))
        self.gives("out", state_after, BOW, "a", ())
        self.gives((("a",), ("a", "b"), ("a", "c"), ("a", "b", "c")), sure_after, BOW, "a")
        self.gives(4, count_sure, BOW, "a")
        self.gives(6, count_sure, BOW, "c")
        self.gives(16, count_sure, FIVE, "a")
        self.gives(2 + 10 * 2, count_sure, star(10), "a")

    def test_wrong_outcomes(self):
        for value in no_outcomes():
            self.fails(Refused("outcome"), state_after, BOW, value, ("a",))
            self.fails(Refused("outcome"), state_after, BOW, value, value)
            self.fails(Refused("outcome"), sure_after, BOW, value)
            self.fails(Refused("outcome"), count_sure, BOW, value)
            self.fails(Refused("outcome"), can_follow, BOW, value, "a")
            self.fails(Refused("outcome"), can_follow, BOW, "a", value)
            self.fails(Refused("outcome"), next_outcomes, BOW, value, 0)
            self.fails(Refused("outcome"), next_outcomes, BOW, value, 7)
            self.fails(Refused("outcome"), shown_next, BOW, value, 0)
            self.fails(Refused("outcome"), shown_next, BOW, value, None)

    def test_wrong_sayings_and_rooms(self):
        self.fails(InvalidSaying(-1), state_after, BOW, "a", "a")
        self.fails(InvalidSaying(1), state_after, BOW, "a", ("a", "d"))
        self.fails(InvalidSaying(2), state_after, BOW, "a", ("d", "e"))
        self.fails(InvalidSaying(0), state_after, BOW, "a", (None,))
        for value in odd_values() + [2, "0", (0,)]:
            self.fails(InvalidNumber("room"), next_outcomes, BOW, "a", value)
            self.fails(InvalidNumber("room"), shown_next, BOW, "a", value)


class FollowingTests(Case):
    def test_can_follow_and_next_outcomes(self):
        for each in BOOKS + LARGE[:5]:
            model = Model(each.rooms)
            for one in each.outcomes():
                for other in each.outcomes():
                    self.assertIs(can_follow(each, one, other), follows(each, one, other))
                for number, room in enumerate(each.rooms):
                    lot = tuple([name for name in room if follows(each, one, name)])
                    self.assertEqual(next_outcomes(each, one, number), lot)
                    self.assertEqual(shown_next(each, one, number), model.saying(number, lot))

    def test_in_every_way(self):
        each = book("a b c\na d e\nb f g")
        self.gives(("b", "c"), next_outcomes, each, "d", 0)
        self.gives(("b", "c"), shown_next, each, "d", 0)
        self.gives(("a",), next_outcomes, each, "a", 0)
        self.gives(True, can_follow, each, "a", "f")
        self.gives(False, can_follow, each, "a", "b")
        self.gives(True, can_follow, each, "b", "b")
        self.gives(("a", "b"), shown_next, BOW, "d", 0)
        self.gives(("a", "b"), shown_next, BOW, "a", 1)
        self.gives(("d", "e"), next_outcomes, BOW, "a", 1)
        # With rings of three possibly no outcome can follow.
        self.gives((), next_outcomes, FANO, "a", 1)
        self.gives((), shown_next, FANO, "a", 1)

    def test_unimplied_look(self):
        for each in BOOKS + made_books(7, 60):
            model = Model(each.rooms)
            pairs = []
            for name in each.outcomes():
                for number, room in enumerate(each.rooms):
                    lot = tuple([other for other in room if follows(each, name, other)])
                    if not model.implies((name,), model.saying(number, lot)):
                        pairs.append((name, number))
            self.assertEqual(unimplied_look(each), pairs[0] if pairs else None)
            self.assertEqual(pairs == [], rings(each.rooms, 3) == ())
        for each in [ONE, TWO, SQUARE, TRIANGLE, GRID, FANO, star(10)]:
            self.gives(unimplied_look(each), unimplied_look, each)
        self.assertEqual(unimplied_look(TRIANGLE), ("a", 1))


class BridgeTests(Case):
    def test_bridges(self):
        for each in BOOKS + LARGE + made_books(8, 30):
            numbers = range(len(each.rooms))
            found = {}
            for one in numbers:
                for other in numbers:
                    wanted = [k for k in numbers if k not in (one, other) and any(
                        [p != q for p in each.rooms[k] for q in each.rooms[k]
                         if p in each.rooms[one] and q in each.rooms[other]])]
                    found[one, other] = bridges(each, one, other)
                    self.assertEqual(found[one, other], tuple(wanted))
            self.check_house(each, found)

    def check_house(self, each, found):
        def allowed(one, other):
            return 0 if set(each.rooms[one]) & set(each.rooms[other]) else 1
        few = all([len(found[pair]) <= allowed(*pair) for pair in found if pair[0] != pair[1]])
        self.assertEqual(few, short_rings_of(each.rooms) == ())

    def test_runs_of_two_rooms(self):
        for each in SMALL + MIDDLE + made_houses(1, 10):
            for one, first in enumerate(each.rooms):
                for other, second in enumerate(each.rooms):
                    if one != other:
                        many = len([1 for p in first for q in second if follows(each, p, q)])
                        shared = len(set(first) & set(second))
                        full = (len(first) - 1) * (len(second) - 1) + 1 if shared else len(first) * len(second)
                        self.assertEqual(many, full - len(bridges(each, one, other)))

    def test_in_every_way(self):
        self.gives((2,), bridges, TRIANGLE, 0, 1)
        self.gives((1, 3), bridges, SQUARE, 0, 2)
        self.gives((), bridges, SQUARE, 0, 1)
        self.gives((), bridges, SQUARE, 2, 2)
        self.gives((), bridges, star(10), 0, 9)
        self.gives((), bridges, apart(8), 0, 7)

    def test_wrong_rooms(self):
        for value in odd_values() + [3, "0", (0,)]:
            self.fails(InvalidNumber("room"), bridges, TRIANGLE, value, 0)
            self.fails(InvalidNumber("room"), bridges, TRIANGLE, 0, value)
            self.fails(InvalidNumber("room"), bridges, TRIANGLE, value, value)


if __name__ == "__main__":
    unittest.main()
