"""Marks: point [67]."""

import unittest
from itertools import combinations

from common import Case, Thing, odd_values
from oracle import settings
from samples import K5, LARGE, MIDDLE, ONE, SMALL, TWO, TRIANGLE, apart, book, made_books, pairs_book
from roomlooks.marks import Marks, OddRooms, check_marks, marks


def odd(items):
    return len(items) % 2 == 1


def are_marks(each, lot):
    return all([odd([name for name in room if name in lot]) for room in each.rooms])


def are_odd_rooms(each, rooms):
    return odd(rooms) and all([not odd([r for r in each.rooms_of(name) if r in rooms]) for name in each.outcomes()])


class MarksTests(Case):
    def test_classes(self):
        self.assertEqual(vars(Marks(("a",))), {"lot": ("a",)})
        self.assertEqual(vars(Marks(lot=None)), {"lot": None})
        self.assertEqual(vars(OddRooms((1,))), {"rooms": (1,)})
        self.assertEqual(vars(OddRooms(rooms=[])), {"rooms": []})

    def test_some(self):
        kinds = []
        for each in SMALL + MIDDLE + LARGE + made_books(2, 150):
            found = marks(each)
            kinds.append(type(found).__name__)
            if isinstance(found, Marks):
                self.assertTrue(are_marks(each, found.lot))
                self.assertEqual(found.lot, tuple(sorted(set(found.lot) & set(each.outcomes()))))
            else:
                self.assertTrue(are_odd_rooms(each, found.rooms))
                self.assertEqual(found.rooms, tuple(sorted(set(found.rooms) & set(range(len(each.rooms))))))
            self.assertIs(check_marks(each, found), True)
        self.assertEqual(set(kinds), {"Marks", "OddRooms"})

    def test_in_every_way(self):
        for each in [ONE, K5, TRIANGLE]:
            self.gives(marks(each), marks, each)
            self.gives(True, check_marks, each, marks(each))

    def test_check_against_all(self):
        nine = pairs_book(5, [(a, b) for b in range(5) for a in range(b)])
        for each in [ONE, TWO, TRIANGLE, nine, book("a b c\na d e\na f g\nb d f")]:
            lots = [lot for n in range(len(each.outcomes()) + 1) for lot in combinations(each.outcomes(), n)]
            rows = [row for n in range(len(each.rooms) + 1) for row in combinations(range(len(each.rooms)), n)]
            good = [check_marks(each, Marks(lot)) for lot in lots]
            bad = [check_marks(each, OddRooms(row)) for row in rows]
            self.assertEqual(good, [are_marks(each, lot) for lot in lots])
            self.assertEqual(bad, [are_odd_rooms(each, row) for row in rows])
            self.assertNotEqual(any(good), any(bad))

    def test_a_setting_is_marks(self):
        for each in SMALL + made_books(3, 20, 6):
            for _, setting in settings(each.rooms)[:20]:
                self.assertTrue(check_marks(each, Marks(setting)))

    def test_check_of_any_value(self):
        for value in odd_values():
            self.gives(False, check_marks, K5, value)
            self.gives(False, check_marks, K5, Marks(value))
            self.gives(False, check_marks, K5, OddRooms(value))
            self.gives(False, check_marks, K5, OddRooms((0, 1, 2, 3, value)))
            self.gives(False, check_marks, ONE, Marks(("a", value, "c")))
        self.gives(False, check_marks, ONE, Thing(lot=("a",)))
        self.gives(False, check_marks, K5, Thing(rooms=(0, 1, 2, 3, 4)))

    def test_check_of_spoilt_values(self):
        self.gives(True, check_marks, ONE, Marks(("a", "b", "c")))
        for lot in [(), ("a", "b"), ["a"], ("b", "a", "c"), ("a", "a", "a"), ("a", "b", "b"), ("z",), "a", ("ab",),
                    ("a", "z"), ("a", "b", "c", "z"), ("a", "b", "c", None)]:
            self.gives(False, check_marks, ONE, Marks(lot))
        self.gives(True, check_marks, K5, OddRooms((0, 1, 2, 3, 4)))
        for rooms in [(), (0,), (0, 1, 2, 3), [0, 1, 2, 3, 4], (1, 0, 2, 3, 4), (0, 1, 2, 3, 5), (-1, 0, 1, 2, 3),
                      (False, True, 2, 3, 4), (0, 1, 2, 3, 4, 4), (0, 1, 2, 3, 4, 4, 4), (0, 1, 2, 3, "4")]:
            self.gives(False, check_marks, K5, OddRooms(rooms))
        self.assertIsInstance(marks(apart(8)), Marks)


if __name__ == "__main__":
    unittest.main()
