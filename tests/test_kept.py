"""Rooms one by one: the opening of chapter 14, point [89]."""

import unittest
from itertools import combinations, permutations

from common import Case, odd_values
from oracle import short_rings_of
from samples import (BOW, FANO, GRID, HEXAGON, K5, K6, LARGE, LINES, MIDDLE, ONE, PENTAGON, SMALL, SQUARE, TAILED, TORN, TRIANGLE,
                     TWO, book, made_books, star)
from roomlooks.apart import sub_book
from roomlooks.errors import Refused
from roomlooks.kept import check_left, first_closing, greatest_houses, kept_rooms, why_left
from roomlooks.texts import read_book

BOTH = book("a b c\nc d e\ne f a\nb g h\nh i d\nx y z")
BOOKS = SMALL + MIDDLE + [BOTH, K6] + made_books(56, 25, 7)
RING = ((0, "c"), (1, "e"), (2, "a"))


def passed(ring):
    return set([room for room, _ in ring])


def is_house(rings, rooms):
    return not any([passed(ring) <= set(rooms) for ring in rings])


def greatest_of(each):
    rings, many = short_rings_of(each.rooms), len(each.rooms)
    lots = [lot for size in range(many, -1, -1) for lot in combinations(range(many), size) if is_house(rings, lot)]
    return tuple([lot for lot in lots if not any([set(lot) < set(other) for other in lots])])


def closed(rings, room, rooms):
    return [ring for ring in rings if room in passed(ring) and passed(ring) <= set(rooms) | {room}]


class ClosingTests(Case):
    def test_first_closing(self):
        for each in BOOKS:
            rings, wanted = short_rings_of(each.rooms), None
            for room in range(len(each.rooms)):
                found = closed(rings, room, range(room))
                if found and wanted is None:
                    wanted = (room, found[0])
            self.assertEqual(first_closing(each), wanted)
            self.assertEqual(wanted is None, not rings)

    def test_in_every_way(self):
        self.gives((2, RING), first_closing, TRIANGLE)
        self.gives((2, RING), first_closing, BOTH)
        for each in [ONE, BOW, PENTAGON, HEXAGON, star(10)]:
            self.gives(None, first_closing, each)
        for each in [SQUARE, GRID, FANO, LINES, TORN]:
            self.gives(first_closing(each), first_closing, each)
        self.gives((2, RING), first_closing, read_book("a b c\nc d e\ne f a"))
        # A ring of four stands behind those of three.
        each = book("a b c\nc d e\ne f g\ng b h\na i g")
        self.assertEqual([len(first_closing(each)[1]), first_closing(each)[0]], [4, 3])


class KeptTests(Case):
    def test_kept_rooms(self):
        for each in BOOKS:
            rings, many = short_rings_of(each.rooms), len(each.rooms)
            orders = list(permutations(range(many))) if many < 5 else [
                tuple([(step * room + start) % many for room in range(many)]) for step in (1, many - 1) for start in range(many)]
            for order in orders:
                kept = []
                for room in order:
                    kept += [room] if not closed(rings, room, kept) else []
                self.assertEqual(kept_rooms(each, order), tuple(sorted(kept)))

    def test_greatest_houses(self):
        for each in BOOKS:
            found = greatest_houses(each)
            self.assertEqual(found, greatest_of(each))
            for lot in found:
                others = tuple([room for room in range(len(each.rooms)) if room not in lot])
                self.assertEqual(kept_rooms(each, lot + others), lot)

    def test_in_every_way(self):
        self.gives((0, 1), kept_rooms, TRIANGLE, (0, 1, 2))
        self.gives((1, 2), kept_rooms, TRIANGLE, (2, 1, 0))
        self.gives((0,), kept_rooms, ONE, (0,))
        self.gives((0, 1, 2, 3, 4), kept_rooms, PENTAGON, (4, 2, 0, 1, 3))
        self.gives(((0, 1), (0, 2), (1, 2)), greatest_houses, TRIANGLE)
        self.gives(((0, 1),), greatest_houses, BOW)
        for each in [ONE, TAILED, BOTH, GRID, FANO, LINES, LARGE[0]]:
            self.gives(greatest_houses(each), greatest_houses, each)

    def test_wrong_orders(self):
        for value in odd_values() + [(), (0, 1), (0, 1, 1), (0, 1, 2, 2), (0, 1, 3), [0, 1, 2], (0, True, 2), (0, 1.0, 2), "012",
                                     (-1, 0, 1), (0, 1, 2, 3), (False, 1, 2)]:
            self.fails(Refused("order"), kept_rooms, TRIANGLE, value)
            self.fails(Refused("order"), kept_rooms, TRIANGLE, (0, 1, value))


class LeftTests(Case):
    def test_why_left(self):
        for each in BOOKS:
            rings, many = short_rings_of(each.rooms), len(each.rooms)
            lots = list(greatest_houses(each)) + [lot for lot in combinations(range(many), 2)][:4] + [()]
            for kept in lots:
                others = [room for room in range(many) if room not in kept]
                wanted = {room: closed(rings, room, kept)[0] for room in others if closed(rings, room, kept)}
                found = why_left(each, kept)
                self.assertEqual(found, wanted)
                self.assertEqual(list(found), sorted(found))
                self.assertIs(check_left(each, kept, found), len(found) == len(others))
                self.assertEqual(len(found) == len(others), kept in greatest_houses(each))

    def test_in_every_way(self):
        self.gives({2: RING}, why_left, TRIANGLE, (0, 1))
        self.gives({}, why_left, TRIANGLE, (0,))
        self.gives({}, why_left, BOW, (0, 1))
        self.gives(True, check_left, TRIANGLE, (0, 1), {2: RING})
        self.gives(True, check_left, BOW, (0, 1), {})
        self.gives(False, check_left, BOW, (0,), {})
        self.unchanged_by_changes(why_left, TRIANGLE, (0, 1))
        for each in [TRIANGLE, GRID, FANO, LINES, K5, BOTH]:
            for kept in greatest_houses(each)[:3]:
                self.gives(why_left(each, kept), why_left, each, kept)
                self.gives(True, check_left, each, kept, why_left(each, kept))
                self.assertEqual(short_rings_of(sub_book(each, kept).rooms), ())

    def test_any_short_ring_will_do(self):
        for each in [BOTH, TORN, GRID, FANO, K5]:
            rings = short_rings_of(each.rooms)
            for kept in greatest_houses(each)[:2]:
                table = why_left(each, kept)
                for room in table:
                    for ring in rings:
                        wanted = room in passed(ring) and passed(ring) <= set(kept) | {room}
                        self.assertIs(check_left(each, kept, {**table, room: ring}), wanted)

    def test_spoilt(self):
        for kept in [[0, 1], (1, 0), (0, 1, 2), (0, 1, 1), (0,), (), (0, 3), (False, 1), (0, True), "01", (0, 1.0), None]:
            self.gives(False, check_left, TRIANGLE, kept, {2: RING})
        for table in [{}, {2: RING, 3: RING}, {2: RING, 1: RING}, {1: RING}, {"2": RING}, {2.0: RING}, {2: RING[::-1]},
                      {2: RING[1:] + RING[:1]}, {2: list(RING)}, {2: None}, {2: ()}, [(2, RING)], ((2, RING),), None, {2: RING, None: RING},
                      {2: RING[:2]}, {(2,): RING}]:
            self.gives(False, check_left, TRIANGLE, (0, 1), table)
        self.gives(False, check_left, TWO, (0,), {True: RING})
        self.gives(False, check_left, PENTAGON, (0, 1, 2, 3), {4: ((0, "b"), (1, "c"), (2, "d"), (3, "e"), (4, "a"))})
        # The rooms that are kept have a short ring themselves.
        self.gives(False, check_left, TRIANGLE, (0, 1, 2), {})
        self.gives(False, check_left, BOTH, (0, 1, 2, 3, 5), {4: ((0, "b"), (3, "h"), (4, "d"), (1, "c"))})
        turned = book("c d e\na b c\ne f a")
        self.gives(True, check_left, turned, (0, 2), {1: ((0, "c"), (1, "a"), (2, "e"))})
        self.gives(False, check_left, turned, (0, 2), {True: ((0, "c"), (1, "a"), (2, "e"))})

    def test_any_value(self):
        for value in odd_values():
            self.gives(False, check_left, TRIANGLE, value, {2: RING})
            self.gives(False, check_left, TRIANGLE, (0, 1), value)
            self.gives(False, check_left, TRIANGLE, (0, 1), {2: value})
            self.gives(False, check_left, TRIANGLE, (0, value), {2: RING})
            self.gives(False, check_left, TRIANGLE, (0, 1), {2: RING[:2] + (value,)})


if __name__ == "__main__":
    unittest.main()
