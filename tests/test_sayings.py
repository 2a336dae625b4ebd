"""Sayings: the opening of chapter 4 and points [12] to [16]."""

import unittest
from itertools import combinations, permutations

from common import Case, odd_values
from oracle import Model
from samples import (BOW, FIVES, K5, LAMP, LARGE, MIDDLE, ONE, SMALL, TAILED, TRIANGLE, TWO, UNLIKE, apart, made_books,
                     star)
from roomlooks.errors import InvalidNumber, InvalidSaying
from roomlooks.sayings import (NONE, all_sayings, check_saying, count_sayings, forms, implies, opposite, place_of,
                               saying_at, saying_of, together, whole)

BOOKS = SMALL + MIDDLE + made_books(4, 25)


def wrong_sayings(book):
    """Values that are no sayings of a book of two and more rooms, with the place at fault."""
    at_start = [(value, -1) for value in odd_values() if not isinstance(value, tuple)]
    inner = [((value,), 0) for value in odd_values() if value not in book.outcomes()]
    first = book.rooms[0]
    later = [((first[0], value), 1) for value in odd_values() if value not in book.outcomes()]
    return at_start + inner + later + [((first[1], first[0]), 1), ((first[0], first[0]), 1), (book.rooms[1], 3)]


class FormsTests(Case):
    def test_example(self):
        self.assertEqual(opposite(LAMP, ("dark",)), ("flash", "lamp"))
        self.assertEqual(forms(LAMP, ("flash", "lamp")), ((0, ("flash", "lamp")), (1, ("bell", "hum"))))
        self.assertEqual(saying_of(LAMP, 1, ("bell", "hum")), ("flash", "lamp"))
        self.assertTrue(implies(LAMP, ("bell",), ("flash", "lamp")))
        self.assertEqual(count_sayings(LAMP), 12)

    def test_none_and_all(self):
        self.assertEqual(NONE, ())
        for each in BOOKS + LARGE:
            self.gives(each.rooms[0], whole, each)
            self.assertEqual(forms(each, NONE), tuple([(k, ()) for k in range(len(each.rooms))]))
            self.assertEqual(forms(each, whole(each)), tuple(enumerate(each.rooms)))

    def test_forms_and_saying_of(self):
        for each in BOOKS + LARGE[:4]:
            model = Model(each.rooms)
            for saying in model.sayings:
                self.assertEqual(forms(each, saying), model.forms[saying])
                self.assertIsNone(check_saying(each, saying))
                for room, lot in model.forms[saying]:
                    self.assertEqual(saying_of(each, room, lot), saying)

    def test_in_every_way(self):
        for saying in Model(TRIANGLE.rooms).sayings:
            self.gives(Model(TRIANGLE.rooms).forms[saying], forms, TRIANGLE, saying)
            self.gives(None, check_saying, TRIANGLE, saying)
            self.gives(saying, saying_of, TRIANGLE, *forms(TRIANGLE, saying)[-1])

    def test_which_form_is_written(self):
        # The opposite of c is written in room 0, not in room 1; that of e in room 1, not in room 2.
        self.assertIsNone(check_saying(TRIANGLE, ("a", "b")))
        self.fails(InvalidSaying(2), check_saying, TRIANGLE, ("d", "e"))
        self.assertIsNone(check_saying(TRIANGLE, ("c", "d")))
        self.fails(InvalidSaying(2), check_saying, TRIANGLE, ("a", "f"))
        self.gives(("a", "b"), saying_of, TRIANGLE, 1, ("d", "e"))
        self.gives(("c", "d"), saying_of, TRIANGLE, 2, ("a", "f"))
        self.gives(("a", "e"), saying_of, TRIANGLE, 2, ("a", "e"))
        for room in range(3):
            self.gives(("a", "b", "c"), saying_of, TRIANGLE, room, TRIANGLE.rooms[room])
            self.gives((), saying_of, TRIANGLE, room, ())
        self.fails(InvalidSaying(3), check_saying, TRIANGLE, ("c", "d", "e"))
        # In the last rooms of a star the opposite of a stands as in room 0.
        many = star(10)
        self.gives(("b", "c"), saying_of, many, 9, many.rooms[9][1:])
        self.fails(InvalidSaying(2), check_saying, many, many.rooms[9][1:])
        self.assertEqual(len(forms(many, ("b", "c"))), 10)

    def test_room_of_saying_of(self):
        for value in odd_values() + [2, -1, "0", (0,)]:
            if value is not False:
                self.fails(InvalidNumber("room"), saying_of, BOW, value, ("a",))
        self.fails(InvalidNumber("room"), saying_of, BOW, False, ("a",))
        self.fails(InvalidNumber("room"), saying_of, BOW, True, None)
        self.fails(InvalidNumber("room"), saying_of, BOW, 2, [])

    def test_lot_of_saying_of(self):
        for value in odd_values():
            if not isinstance(value, tuple):
                self.fails(InvalidSaying(-1), saying_of, BOW, 0, value)
            self.fails(InvalidSaying(0), saying_of, BOW, 0, (value,))
            self.fails(InvalidSaying(1), saying_of, BOW, 0, ("a", value))
        self.fails(InvalidSaying(0), saying_of, BOW, 1, ("a",))
        self.fails(InvalidSaying(1), saying_of, BOW, 0, ("a", "a"))
        self.fails(InvalidSaying(1), saying_of, BOW, 0, ("b", "a", "z"))
        self.fails(InvalidSaying(2), saying_of, BOW, 0, ("a", "b", "d"))
        self.fails(InvalidSaying(3), saying_of, BOW, 0, ("a", "b", "c", "d"))

    def test_check_saying_against_all_rows(self):
        for each in [TWO, BOW, TRIANGLE, K5]:
            model = Model(each.rooms)
            names = each.outcomes()[:6] + ("zz",)
            for size in range(5):
                for row in permutations(names, size):
                    self.check_row(each, model, row)

    def check_row(self, each, model, row):
        def begins_a_lot(part):
            return any([lot[:len(part)] == part for room in each.rooms for n in range(6)
                        for lot in combinations(room, n)])
        wrong = [at for at in range(len(row)) if not begins_a_lot(row[:at + 1])]
        if row in model.forms:
            self.assertIsNone(check_saying(each, row))
        else:
            with self.assertRaises(InvalidSaying) as caught:
                check_saying(each, row)
            self.assertEqual(caught.exception.at, wrong[0] if wrong else len(row))

    def test_check_saying_of_any_value(self):
        for each in [BOW, UNLIKE, FIVES]:
            for value, at in wrong_sayings(each)[:-1]:
                self.fails(InvalidSaying(at), check_saying, each, value)
            self.fails(InvalidSaying(len(each.rooms[1])), check_saying, each, each.rooms[1])
        self.fails(InvalidSaying(1), check_saying, BOW, ("a", "d"))
        self.fails(InvalidSaying(2), check_saying, BOW, ("a", "b", "d"))
        self.fails(InvalidSaying(0), check_saying, BOW, ("z", "a"))
        self.fails(InvalidSaying(1), check_saying, BOW, ("c", "a", None))
        self.fails(InvalidSaying(3), check_saying, ONE, ("a", "b", "c", "d"))
        self.fails(InvalidSaying(-1), check_saying, BOW, ["a"])
        self.fails(InvalidSaying(-1), check_saying, BOW, "a")

    def test_every_function_checks_its_sayings_in_order(self):
        for value, at in wrong_sayings(BOW):
            for function in [forms, place_of, opposite]:
                self.fails(InvalidSaying(at), function, BOW, value)
            for function in [implies, together]:
                self.fails(InvalidSaying(at), function, BOW, value, ("a",))
                self.fails(InvalidSaying(at), function, BOW, ("a",), value)
                self.fails(InvalidSaying(at), function, BOW, value, ("b", "a"))
                self.fails(InvalidSaying(1), function, BOW, ("b", "a"), value)


class AllSayingsTests(Case):
    def test_all_in_order(self):
        for each in BOOKS + LARGE:
            model = Model(each.rooms)
            self.assertEqual(all_sayings(each), tuple(model.sayings))
            self.assertEqual(count_sayings(each), len(model.sayings))
            for size in range(7):
                self.assertEqual(all_sayings(each, size=size), tuple([s for s in model.sayings if len(s) == size]))

    def test_in_every_way(self):
        for each in [ONE, BOW, UNLIKE]:
            self.gives(tuple(Model(each.rooms).sayings), all_sayings, each)
            self.gives(tuple(Model(each.rooms).sayings), all_sayings, each, size=None)
            self.gives(len(Model(each.rooms).sayings), count_sayings, each)
        self.gives(((),), all_sayings, BOW, size=0)
        self.gives(tuple([(name,) for name in BOW.outcomes()]), all_sayings, BOW, size=1)
        self.gives((("a", "b", "c"),), all_sayings, BOW, size=3)
        self.gives((), all_sayings, BOW, size=4)
        self.gives((), all_sayings, BOW, size=1000)
        with self.assertRaises(TypeError):
            all_sayings(BOW, 1)

    def test_places(self):
        for each in [ONE, BOW, UNLIKE, TRIANGLE, TAILED]:
            for place, saying in enumerate(Model(each.rooms).sayings):
                self.gives(place, place_of, each, saying)
                self.gives(saying, saying_at, each, place)
            self.fails(InvalidNumber("place"), saying_at, each, count_sayings(each))

    def test_wrong_places(self):
        for value in odd_values() + [12, -1, "1", (1,)]:
            self.fails(InvalidNumber("place"), saying_at, BOW, value)


class OppositeTests(Case):
    def test_opposites(self):
        for each in BOOKS:
            model = Model(each.rooms)
            for saying in model.sayings:
                other = opposite(each, saying)
                self.assertEqual(other, model.opposite(saying))
                self.assertEqual(opposite(each, other), saying)
                self.assertEqual([r for r, _ in forms(each, other)], [r for r, _ in forms(each, saying)])
        self.gives(("a", "b", "c"), opposite, BOW, ())
        self.gives((), opposite, BOW, ("a", "b", "c"))
        self.gives(("a", "b"), opposite, BOW, ("c",))
        self.gives(("c",), opposite, BOW, ("a", "b"))
        self.gives(("c", "e"), opposite, BOW, ("d",))


class ImplyingTests(Case):
    def test_implies_and_together(self):
        for each in BOOKS[:24]:
            model = Model(each.rooms)
            for one in model.sayings:
                for other in model.sayings[::1 + len(model.sayings) // 60]:
                    self.assertIs(implies(each, one, other), model.implies(one, other))
                    self.assertEqual(together(each, one, other), model.together(one, other))

    def test_in_every_way(self):
        self.gives(True, implies, BOW, ("a",), ("a", "b"))
        self.gives(True, implies, BOW, ("d",), ("a", "b"))
        self.gives(False, implies, BOW, ("a", "b"), ("d",))
        self.gives(False, implies, apart(3), ("a",), ("d",))
        self.gives((0, 1), together, BOW, ("c",), ("a", "b"))
        self.gives((1,), together, BOW, ("d",), ("a", "b"))
        self.gives((), together, BOW, ("d",), ("a",))
        self.gives(tuple(range(10)), together, star(10), ("a",), ())

    def test_what_always_holds(self):
        for each in [ONE, BOW, TRIANGLE, TAILED]:
            sayings = all_sayings(each)
            for a in sayings:
                self.assertTrue(implies(each, a, a))
                self.assertEqual(implies(each, a, opposite(each, a)), a == ())
                for b in sayings:
                    self.assertFalse(a != b and implies(each, a, b) and implies(each, b, a))
                    self.assertEqual(implies(each, a, b), implies(each, opposite(each, b), opposite(each, a)))
                    if implies(each, a, b):
                        self.check_inner(each, a, b)
                        for c in sayings:
                            self.assertTrue(implies(each, a, c) or not implies(each, b, c))

    def check_inner(self, each, one, other):
        for room in together(each, one, other):
            self.assertTrue(set(dict(forms(each, one))[room]) <= set(dict(forms(each, other))[room]))


if __name__ == "__main__":
    unittest.main()
