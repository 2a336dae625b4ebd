"""Turnings: point [42]."""

import unittest
from itertools import permutations
from math import factorial

from common import Case
from oracle import rings
from samples import (BOW, EIGHT, FANO, FIVE, FIVES, GRID, HEXAGON, K5, K6, LINES, MIDDLE, ONE, PENTAGON, SMALL, SQUARE, TORN, TRIANGLE, TWO,
                     UNLIKE, apart, book, made_books, made_houses, pairs_book, ring_of, row_of, star)
from test_alike import CUBIC
from roomlooks.alike import carries
from roomlooks.errors import Refused
from roomlooks.sayings import all_sayings
from roomlooks.texts import read_book
from roomlooks.turnings import count_turnings, room_turnings

BOOKS = SMALL + MIDDLE + made_books(88, 25, 6) + made_houses(89, 6, 6)


def homes_of(each):
    return sorted([each.rooms_of(name) for name in each.outcomes()])


def by_the_words(each):
    """All tuples of rooms to which some dict of names carries the rooms, by trying all."""
    homes, found = homes_of(each), []
    for to in permutations(range(len(each.rooms))):
        if sorted([tuple(sorted([to[room] for room in own])) for own in homes]) == homes:
            found.append(to)
    return tuple(found)


def free_factor(each):
    total = 1
    for room in each.rooms:
        total *= factorial(len([name for name in room if len(each.rooms_of(name)) == 1]))
    return total


class TurningTests(Case):
    def test_room_turnings(self):
        for each in [each for each in BOOKS if len(each.rooms) < 8]:
            wanted = by_the_words(each)
            if len(wanted) > 200:
                self.fails(Refused("wide"), room_turnings, each)
            self.assertEqual(room_turnings(each, most=10 ** 5), wanted)
            self.assertEqual(count_turnings(each), len(wanted) * free_factor(each))

    def test_all_dicts(self):
        # The turnings themselves, counted by trying all dicts of names.
        for each in [ONE, BOW, TWO, TRIANGLE, book("a b c\nc d e\ne f g"), book("a b c d\nd e f")]:
            names, many, found = each.outcomes(), 0, set()
            for row in permutations(names):
                table = dict(zip(names, row))
                if sorted([tuple(sorted([table[name] for name in room])) for room in each.rooms]) == sorted(each.rooms):
                    many += 1
                    self.assertTrue(carries(each, each, table))
                    found.add(tuple([each.rooms.index(tuple(sorted([table[name] for name in room]))) for room in each.rooms]))
            self.assertEqual(count_turnings(each), many)
            self.assertEqual(room_turnings(each), tuple(sorted(found)))

    def test_ways_to_carry_the_order(self):
        # Without rings of three they are the ways to carry the order onto itself: of its atoms, here by trying all.
        for each in [ONE, BOW, SQUARE, book("a b c\nc d e\ne f g"), TWO]:
            self.assertEqual(rings(each.rooms, 3), ())
            names, many = each.outcomes(), 0
            near = {frozenset(pair) for room in each.rooms for pair in permutations(room, 2)}
            for row in permutations(names) if len(names) < 8 else []:
                table = dict(zip(names, row))
                many += {frozenset([table[name] for name in pair]) for pair in near} == near
            if len(names) < 8:
                self.assertEqual(count_turnings(each), many)
            self.assertGreater(len(all_sayings(each)), 0)

    def test_example(self):
        bow = read_book("a b c\nc d e")
        self.assertEqual((room_turnings(bow), count_turnings(bow)), (((0, 1), (1, 0)), 8))

    def test_in_every_way(self):
        self.gives(((0,),), room_turnings, ONE)
        self.gives(6, count_turnings, ONE)
        self.gives(120, count_turnings, FIVE)
        self.gives(((0, 1), (1, 0)), room_turnings, BOW, most=2)
        self.gives(((0, 1, 2),), room_turnings, UNLIKE)
        self.gives(room_turnings(TRIANGLE, most=6), room_turnings, TRIANGLE)
        self.gives(8 * 1, lambda book: len(room_turnings(book)), SQUARE)
        for each in [PENTAGON, HEXAGON, GRID, TORN, K5, FANO]:
            self.gives(room_turnings(each), room_turnings, each)
            self.gives(count_turnings(each), count_turnings, each)

    def test_most(self):
        for each, many in [(BOW, 2), (TRIANGLE, 6), (SQUARE, 8), (GRID, 72), (K5, 120), (FANO, 168), (ONE, 1)]:
            self.assertEqual(len(room_turnings(each)), many)
            self.assertEqual(len(room_turnings(each, most=many)), many)
            self.fails(Refused("wide"), room_turnings, each, most=many - 1)
        self.fails(Refused("wide"), room_turnings, K6)
        self.assertEqual(len(room_turnings(K6, most=720)), 720)
        for each in [EIGHT, star(10), star(6)]:
            self.fails(Refused("wide"), room_turnings, each)
        self.assertEqual(len(room_turnings(ring_of(10))), 20)
        self.assertEqual(room_turnings(row_of(10)), (tuple(range(10)), tuple(range(9, -1, -1))))

    def test_many_turnings(self):
        self.gives(factorial(10) * 2 ** 10, count_turnings, star(10))
        self.gives(factorial(8) * 6 ** 8, count_turnings, EIGHT)
        self.gives(factorial(4) * 120 ** 4, count_turnings, apart(4, 5))
        self.gives(20, count_turnings, ring_of(10))
        self.gives(2 * 2 * 2, count_turnings, row_of(10))
        # Graphs whose turnings are known: the prism of ten points, Petersen's graph, a ladder that is twisted.
        self.assertEqual([count_turnings(each) for each in CUBIC], [20, 120, 20])
        self.gives(48, count_turnings, pairs_book(8, [(a, b) for b in range(8) for a in range(b) if bin(a ^ b).count("1") == 1]))

    def test_planes(self):
        for each in [LINES, FIVES]:
            found = count_turnings(each)
            self.gives(found, count_turnings, each)
            rooms = room_turnings(each, most=10 ** 5)
            self.assertEqual(len(rooms) * free_factor(each), found)
            self.assertEqual(rooms, tuple(sorted(set(rooms))))
            homes = homes_of(each)
            for to in rooms[::1 + len(rooms) // 40]:
                self.assertEqual(sorted([tuple(sorted([to[room] for room in own])) for own in homes]), homes)


if __name__ == "__main__":
    unittest.main()
