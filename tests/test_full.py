"""Full books: point [95] and the opening of chapter 15."""

import unittest

from common import Case, odd_values
from oracle import rings, settings
from samples import BOW, FANO, GRID, HEXAGON, K5, K6, LARGE, MIDDLE, ONE, SMALL, TRIANGLE, book, made_books
from roomlooks.errors import InvalidNumber, Refused
from roomlooks.full import is_full, least_full, least_rooms

POSSIBLE = {(3, 3): 4, (3, 4): 6, (3, 5): 10, (4, 3): 5, (4, 4): 8, (5, 3): 6}


def full(each):
    homes = [each.rooms_of(name) for name in each.outcomes()]
    return all([len(own) == 2 for own in homes]) and len(set([len(room) for room in each.rooms])) == 1


class FullTests(Case):
    def test_is_full(self):
        for each in [GRID, K5, K6, book("a b c\na d e\nb d f\nc e f")]:
            self.gives(True, is_full, each)
        for each in [ONE, BOW, TRIANGLE, HEXAGON, FANO]:
            self.gives(False, is_full, each)
        for each in SMALL + MIDDLE + LARGE + made_books(5, 60):
            self.assertIs(is_full(each), full(each))
        # Each outcome stands in two rooms, but the rooms have unlike sizes.
        unlike = book("a b c d\na e f\nb e g\nc f h\nd g h")
        self.assertTrue(all([len(unlike.rooms_of(name)) == 2 for name in unlike.outcomes()]))
        self.gives(False, is_full, unlike)

    def test_no_setting_with_an_odd_number_of_rooms(self):
        self.assertEqual(settings(K5.rooms), [])
        self.assertNotEqual(settings(K6.rooms), [])

    def test_least_rooms(self):
        self.gives(4, least_rooms, 3, 3)
        self.gives(6, least_rooms, 3, 4)
        self.gives(10, least_rooms, 3, 5)
        self.gives(14, least_rooms, 3, 6)
        self.gives(22, least_rooms, 3, 7)
        self.gives(62, least_rooms, 3, 10)
        self.gives(53, least_rooms, 4, 7)
        self.gives(1 + 5 * (1 + 4 + 16 + 64), least_rooms, 5, 9)
        self.gives(2 * (1 + 4 + 16 + 64 + 256), least_rooms, 5, 10)
        for size in range(3, 6):
            for ring in range(3, 11):
                t = size - 1
                odd = 1 + size * sum([t ** k for k in range((ring - 3) // 2 + 1)])
                even = 2 * sum([t ** k for k in range(ring // 2)])
                self.gives(odd if ring % 2 else even, least_rooms, size, ring)

    def test_least_full(self):
        for size in range(3, 6):
            for ring in range(3, 11):
                if (size, ring) not in POSSIBLE:
                    self.fails(Refused("wide"), least_full, size, ring)
                    continue
                found = least_full(size, ring)
                self.gives(found, least_full, size, ring)
                self.assertEqual(len(found.rooms), POSSIBLE[size, ring])
                self.assertEqual(len(found.rooms), least_rooms(size, ring))
                self.assertTrue(is_full(found) and full(found))
                self.assertEqual([len(room) for room in found.rooms], [size] * len(found.rooms))
                for shorter in range(3, ring):
                    self.assertEqual(rings(found.rooms, shorter), ())
                if ring < 5:
                    self.assertNotEqual(rings(found.rooms, ring), ())

    def test_rings_of_five(self):
        self.assertNotEqual(rings(least_full(3, 5).rooms, 5), ())

    def test_wrong_numbers(self):
        for function in [least_rooms, least_full]:
            for value in odd_values() + [2, 6, 0, -3, "3", 3.0, (3,)]:
                self.fails(InvalidNumber("size"), function, value, 3)
                self.fails(InvalidNumber("size"), function, value, None)
                self.fails(InvalidNumber("size"), function, value, value)
            for value in odd_values() + [2, 11, 0, -3, "3", 3.0, (3,)]:
                self.fails(InvalidNumber("ring"), function, 3, value)
                self.fails(InvalidNumber("ring"), function, 5, value)


if __name__ == "__main__":
    unittest.main()
