"""Greatest lots, the centre, outcomes below: points [37] and [38]."""

import unittest
from itertools import combinations

from common import Case
from oracle import Model, rings
from samples import (BOW, FANO, FIVE, GRID, HEXAGON, K5, LARGE, LINES, ONE, PENTAGON, SMALL, TORN, TRIANGLE, TWO, book,
                     made_books, plane, star)
from roomlooks.lots import centre, hidden_pairs, outcomes_under, together_lots
from roomlooks.texts import read_book

WHEEL = book("a b c\na d e\nb d f")
WHOLE = book("a b c\na d e\nb d f\nc d g")
BOOKS = SMALL + [PENTAGON, GRID, TORN, K5, FANO, WHEEL, WHOLE] + made_books(34, 14, 7)


def greatest_lots(model):
    """The greatest lots of sayings that stand two by two together, by trying all."""
    near = {one: [other for other in model.sayings if other != one and model.together(one, other)]
            for one in model.sayings}
    found = []

    def grow(lot, open_ones, closed):
        if not open_ones and not closed:
            found.append(tuple(sorted(lot, key=lambda saying: (len(saying), saying))))
        if not open_ones:
            return
        pivot = max(open_ones + closed, key=lambda one: len([other for other in open_ones if other in near[one]]))
        for one in [one for one in open_ones if one not in near[pivot]]:
            grow(lot + [one], [o for o in open_ones if o in near[one]], [o for o in closed if o in near[one]])
            open_ones = [other for other in open_ones if other != one]
            closed = closed + [one]

    grow([], model.sayings, [])
    return tuple(sorted(found))


def rooms_as_lots(model):
    lots = [[s for s in model.sayings if r in [home for home, _ in model.forms[s]]] for r in range(len(model.rooms))]
    return tuple(sorted([tuple(lot) for lot in lots]))


class GreatestTests(Case):
    def test_by_trying_all(self):
        fewer = 0
        for each in BOOKS:
            model = Model(each.rooms)
            wanted = greatest_lots(model)
            self.assertEqual(together_lots(each), wanted)
            self.assertEqual(wanted == rooms_as_lots(model), not rings(each.rooms, 3))
            fewer += len(wanted) < len(each.rooms)
        self.assertGreater(fewer, 0)

    def test_in_every_way(self):
        self.gives((((), ("a",), ("b",), ("c",), ("a", "b"), ("a", "c"), ("b", "c"), ("a", "b", "c")),),
                   together_lots, ONE)
        for each in [BOW, TWO, TRIANGLE, FIVE, WHOLE]:
            self.gives(together_lots(each), together_lots, each)
        knot = ((), ("a",), ("c",), ("e",), ("a", "b"), ("b", "c"), ("c", "d"), ("a", "b", "c"))
        self.assertIn(knot, together_lots(TRIANGLE))
        self.assertEqual(len(together_lots(TRIANGLE)), 4)

    def test_rooms_within_a_knot(self):
        # All seven outcomes of a plane are two by two in some room: one knot, in which all rooms lie.
        self.assertEqual([len(lot) for lot in together_lots(FANO)], [16])
        # In a room of four outcomes there are sayings without other forms.
        four = book("a b c x\na d e\nb d f\nc d g")
        self.assertEqual(len(together_lots(four)), 1 + 4)
        self.assertEqual(together_lots(four), greatest_lots(Model(four.rooms)))
        for each in [LINES, plane(3, 9), K5, TORN, GRID]:
            self.assertEqual(together_lots(each), greatest_lots(Model(each.rooms)))


class CentreTests(Case):
    def test_by_trying_all(self):
        for each in BOOKS + LARGE[:4]:
            model = Model(each.rooms)
            wanted = [one for one in model.sayings if all([model.together(one, other) for other in model.sayings])]
            self.assertEqual(centre(each), tuple(wanted))

    def test_in_every_way(self):
        self.gives(((), ("c",), ("a", "b"), ("a", "b", "c")), centre, BOW)
        self.gives(((), ("a", "b", "c")), centre, TWO)
        self.gives(((), ("a",), ("b", "c"), ("a", "b", "c")), centre, star(3))
        self.assertEqual(len(centre(FIVE)), 32)
        self.assertEqual(len(centre(FANO)), 16)
        self.gives(((), ("a", "b", "f")), centre, PENTAGON)
        for each in [ONE, FIVE, FANO, WHOLE]:
            self.gives(centre(each), centre, each)


class BelowTests(Case):
    def test_outcomes_under(self):
        for each in BOOKS:
            model = Model(each.rooms)
            for saying in model.sayings:
                wanted = tuple([name for name in each.outcomes() if model.implies((name,), saying)])
                self.assertEqual(outcomes_under(each, saying), wanted)

    def test_in_every_way(self):
        self.gives((), outcomes_under, BOW, ())
        self.gives(("a", "b", "c", "d", "e"), outcomes_under, BOW, ("a", "b", "c"))
        self.gives(("c",), outcomes_under, BOW, ("c",))
        self.gives(("a", "b", "d", "e"), outcomes_under, BOW, ("a", "b"))
        self.gives(("a", "c"), outcomes_under, BOW, ("a", "c"))
        self.gives(((), ("c",), ("a", "b"), ("a", "b", "c")), centre, read_book("a b c\nc d e"))

    def test_hidden_pairs(self):
        hidden = 0
        for each in BOOKS:
            model = Model(each.rooms)
            under = {s: set([name for name in each.outcomes() if model.implies((name,), s)]) for s in model.sayings}
            wanted = tuple([(one, other) for one in model.sayings for other in model.sayings
                            if under[one] <= under[other] and not model.implies(one, other)])
            self.assertEqual(hidden_pairs(each), wanted)
            hidden += len(wanted)
            if not rings(each.rooms, 3):
                self.assertEqual(wanted, ())
                self.assertFalse(any([under[a] == under[b] for a, b in combinations(model.sayings, 2)]))
        self.assertGreater(hidden, 50)

    def test_hidden_in_every_way(self):
        self.gives((), hidden_pairs, BOW)
        for each in [TRIANGLE, WHEEL, HEXAGON, FANO]:
            self.gives(hidden_pairs(each), hidden_pairs, each)
        found = hidden_pairs(TRIANGLE)
        self.assertEqual(found, ((("a", "c"), ("c", "d")), (("a", "e"), ("a", "b")), (("c", "e"), ("b", "c"))))


if __name__ == "__main__":
    unittest.main()
