"""Asked sayings: the opening of chapter 12, point [76], and [77] for `order_gap`."""

import unittest

from common import Case, odd_values
from oracle import Model
from samples import BOW, FIVE, ONE, PENTAGON, TWO, book, made_houses, row_of, star
from roomlooks.asks import ask, enough_known, gentle_room, order_gap
from roomlooks.errors import InvalidSaying, Refused
from roomlooks.full import least_full
from roomlooks.looks import can_follow
from roomlooks.sayings import all_sayings, forms, implies, saying_of, together, whole
from roomlooks.tables import meet
from roomlooks.verdicts import House
from test_sayings import wrong_sayings

HOUSES = [ONE, FIVE, TWO, BOW, PENTAGON, star(3), row_of(3, 4), least_full(3, 5)] + made_houses(3, 5, 4)


class AskTests(Case):
    def test_ask(self):
        for each in HOUSES:
            model, house = Model(each.rooms), House(each)
            for known in model.sayings[::1 + len(model.sayings) // 15]:
                for saying in model.sayings[::1 + len(model.sayings) // 20]:
                    back = model.opposite(saying)
                    wanted = model.meet(saying, model.join(known, back))
                    self.assertEqual(ask(house, known, saying), wanted)
                    self.assertEqual(wanted == (), model.implies(known, back))

    def test_enough_known(self):
        for each in [ONE, TWO, BOW, PENTAGON, star(3)] + made_houses(4, 3, 3):
            house, sayings = House(each), all_sayings(each)
            for saying in sayings[::2]:
                for wanted in sayings[::3]:
                    enough = enough_known(house, saying, wanted)
                    for known in sayings:
                        left = ask(house, known, saying)
                        self.assertEqual(implies(each, known, enough), implies(each, left, wanted))

    def test_gentle_room(self):
        for each in HOUSES:
            house = House(each)
            for outcome in each.outcomes():
                for saying in all_sayings(each):
                    asked = ask(house, (outcome,), saying)
                    lefts = {}
                    for room, lot in forms(each, saying):
                        lefts[room] = saying_of(each, room, tuple([q for q in lot if can_follow(each, outcome, q)]))
                        self.assertTrue(implies(each, asked, lefts[room]))
                    gentle = [room for room in lefts if lefts[room] == asked]
                    self.assertEqual(gentle_room(house, outcome, saying), min(gentle))

    def test_in_every_way(self):
        house = House(book("a b c\nc d e\ne f g"))
        self.gives(("d",), ask, house, ("a", "b"), ("d",))
        self.gives((), ask, house, ("b",), ("a",))
        self.gives(("d",), ask, house, ("d",), ("a", "b"))
        self.gives(("d",), ask, house, ("f",), ("a", "b"))
        self.gives(("a", "b"), ask, house, ("a", "b", "c"), ("a", "b"))
        self.gives(ask(house, ("a",), ("e", "f")), ask, house, ("a",), ("e", "f"))
        self.gives(enough_known(house, ("a",), ("d",)), enough_known, house, ("a",), ("d",))
        self.gives(whole(house.book), enough_known, house, ("a",), ("a", "b"))
        self.gives(0, gentle_room, house, "a", ("a", "b"))
        self.gives(1, gentle_room, house, "d", ("a", "b"))
        self.gives(2, gentle_room, house, "a", ("f",))
        self.gives(0, gentle_room, house, "a", ())

    def test_wrong_sayings(self):
        house = House(BOW)
        for value, at in wrong_sayings(BOW):
            for function in [ask, enough_known, order_gap]:
                self.fails(InvalidSaying(at), function, house, value, ("a",))
                self.fails(InvalidSaying(at), function, house, ("a",), value)
                self.fails(InvalidSaying(at), function, house, value, ("b", "a"))
                self.fails(InvalidSaying(1), function, house, ("b", "a"), value)
            self.fails(InvalidSaying(at), gentle_room, house, "a", value)

    def test_wrong_outcomes(self):
        for value in odd_values() + ["z", ("a",)]:
            self.fails(Refused("outcome"), gentle_room, House(BOW), value, ("a",))
            self.fails(Refused("outcome"), gentle_room, House(BOW), value, value)


class GapTests(Case):
    def test_order_gap(self):
        for each in HOUSES:
            house, sayings = House(each), all_sayings(each)
            every = whole(each)
            for one in sayings:
                for other in sayings[::1 + len(sayings) // 12]:
                    found = order_gap(house, one, other)
                    first = ask(house, ask(house, every, one), other)
                    second = ask(house, ask(house, every, other), one)
                    if together(each, one, other):
                        self.assertIsNone(found)
                        both = meet(house, one, other)
                        for known in sayings[::5]:
                            for row in [(one, other), (other, one)]:
                                left = ask(house, ask(house, known, row[0]), row[1])
                                self.assertEqual(left, ask(house, known, both))
                    else:
                        self.assertEqual(found, (first, second))
                        self.assertNotEqual(first, second)

    def test_in_every_way(self):
        house = House(BOW)
        self.gives(None, order_gap, house, ("a",), ("b", "c"))
        self.gives((("d",), ("a",)), order_gap, house, ("a",), ("d",))
        self.gives(order_gap(house, ("a", "c"), ("d",)), order_gap, house, ("a", "c"), ("d",))


if __name__ == "__main__":
    unittest.main()
