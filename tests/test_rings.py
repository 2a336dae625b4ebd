"""Rings: points [20] and [21]."""

import unittest
from itertools import product

from common import Case, odd_values
from oracle import rings
from samples import (BOW, FANO, FIVES, GRID, HEXAGON, K5, LINES, MIDDLE, ONE, PENTAGON, SMALL, SQUARE, TAILED, TORN,
                     TRIANGLE, TWO, apart, made_books, pairs_book, ring_of, row_of, star)
from roomlooks.errors import InvalidNumber, InvalidRing
from roomlooks.full import least_full
from roomlooks.rings import check_ring, neighbours, rings_of, short_rings, shortest_ring, written_ring

ROUND = ((0, "c"), (1, "e"), (2, "a"))
BOOKS = SMALL + MIDDLE + made_books(12, 20, 7)


def turnings(ring):
    """All ways to begin a ring at one of its rooms and to go round it."""
    found = []
    for start in range(len(ring)):
        ahead = ring[start:] + ring[:start]
        found.append(ahead)
        rooms = [ahead[0][0]] + [room for room, _ in reversed(ahead[1:])]
        found.append(tuple(zip(rooms, [outcome for _, outcome in reversed(ahead)])))
    return found


def fault_of(each, value):
    """What point [20] says of a tuple of pairs: None for a ring, otherwise the place at fault."""
    for at, (room, outcome) in enumerate(value):
        if not 0 <= room < len(each.rooms) or outcome not in each.rooms[room]:
            return at
        if room in [pair[0] for pair in value[:at]] or outcome in [pair[1] for pair in value[:at]]:
            return at
        if at and value[at - 1][1] not in each.rooms[room]:
            return at
    if len(value) < 3 or value[-1][1] not in each.rooms[value[0][0]]:
        return len(value)
    return None


class NeighbourTests(Case):
    def test_neighbours(self):
        for each in BOOKS + [FIVES, LINES]:
            for room, own in enumerate(each.rooms):
                wanted = [(k, p) for k, other in enumerate(each.rooms) for p in own if k != room and p in other]
                self.assertEqual(neighbours(each, room), tuple(sorted(wanted)))
        self.gives(((1, "c"), (2, "a")), neighbours, TRIANGLE, 0)
        self.gives((), neighbours, ONE, 0)
        self.gives(tuple([(k, "a") for k in range(9)]), neighbours, star(10), 9)

    def test_wrong_rooms(self):
        for value in odd_values() + [3, "0", (0,), 10]:
            self.fails(InvalidNumber("room"), neighbours, TRIANGLE, value)


class CheckRingTests(Case):
    def test_rings_that_are_written(self):
        for each in BOOKS:
            for size in range(3, 7 if len(each.rooms) < 7 else 5):
                for ring in rings(each.rooms, size)[:40]:
                    self.assertIsNone(check_ring(each, ring))
                    for turned in turnings(ring):
                        self.assertEqual(written_ring(each, turned), ring)
                        if turned != ring:
                            with self.assertRaises(InvalidRing) as caught:
                                check_ring(each, turned)
                            self.assertEqual(caught.exception.at, len(ring))

    def test_in_every_way(self):
        self.gives(None, check_ring, TRIANGLE, ROUND)
        for turned in turnings(ROUND):
            self.gives(ROUND, written_ring, TRIANGLE, turned)
            if turned != ROUND:
                self.fails(InvalidRing(3), check_ring, TRIANGLE, turned)
        ten = shortest_ring(ring_of(10))
        self.gives(None, check_ring, ring_of(10), ten)
        self.gives(ten, written_ring, ring_of(10), turnings(ten)[7])
        self.fails(InvalidRing(10), check_ring, ring_of(10), turnings(ten)[7])

    def test_all_rows_of_pairs(self):
        for each in [TRIANGLE, SQUARE, TAILED]:
            shares = [(room, name) for room in range(4) for name in each.shared() + ("b",)]
            for size in range(4):
                for value in product(shares, repeat=size):
                    self.check_row(each, value)
        for value in product([(room, name) for room in range(4) for name in SQUARE.rooms[room][:2]], repeat=4):
            self.check_row(SQUARE, value)

    def check_row(self, each, value):
        fault = fault_of(each, value)
        if fault is None:
            written = min(turnings(value), key=lambda ring: (ring[0][0], ring[1][0] > ring[-1][0], ring))
            self.assertEqual(written_ring(each, value), written)
            fault = None if value == written else len(value)
        else:
            with self.assertRaises(InvalidRing) as caught:
                written_ring(each, value)
            self.assertEqual(caught.exception.at, fault)
        if fault is None:
            self.assertIsNone(check_ring(each, value))
        else:
            with self.assertRaises(InvalidRing) as caught:
                check_ring(each, value)
            self.assertEqual(caught.exception.at, fault)

    def test_any_value(self):
        for function in [check_ring, written_ring]:
            for value in odd_values() + [[(0, "c"), (1, "e"), (2, "a")]]:
                if not isinstance(value, tuple):
                    self.fails(InvalidRing(-1), function, TRIANGLE, value)
                self.fails(InvalidRing(0), function, TRIANGLE, (value,))
                self.fails(InvalidRing(0), function, TRIANGLE, (value,) + ROUND)
                self.fails(InvalidRing(1), function, TRIANGLE, (ROUND[0], value, ROUND[2]))
                self.fails(InvalidRing(2), function, TRIANGLE, ROUND[:2] + (value,))
                self.fails(InvalidRing(3), function, TRIANGLE, ROUND + (value,))
                self.fails(InvalidRing(1), function, TRIANGLE, (ROUND[0], (value, "e"), ROUND[2]))
                self.fails(InvalidRing(1), function, TRIANGLE, (ROUND[0], (1, value), ROUND[2]))
            self.fails(InvalidRing(0), function, TRIANGLE, ((False, "c"), (1, "e"), (2, "a")))
            self.fails(InvalidRing(0), function, TRIANGLE, ([0, "c"], (1, "e"), (2, "a")))
            self.fails(InvalidRing(1), function, TRIANGLE, ((0, "c"), (1, "e", 2), (2, "a")))
            self.fails(InvalidRing(1), function, TRIANGLE, ((0, "c"), ("1", "e"), (2, "a")))

    def test_places(self):
        for function in [check_ring, written_ring]:
            self.fails(InvalidRing(0), function, TRIANGLE, ())
            self.fails(InvalidRing(1), function, TRIANGLE, ROUND[:1])
            self.fails(InvalidRing(2), function, TRIANGLE, ROUND[:2])
            self.fails(InvalidRing(0), function, TRIANGLE, ((3, "c"),) + ROUND[1:])
            self.fails(InvalidRing(0), function, TRIANGLE, ((0, "e"),) + ROUND[1:])
            # The room, then the outcome of an earlier item; a room without the outcome before.
            self.fails(InvalidRing(2), function, TRIANGLE, ((0, "c"), (1, "e"), (0, "a")))
            self.fails(InvalidRing(1), function, TRIANGLE, ((0, "c"), (1, "c"), (2, "a")))
            self.fails(InvalidRing(1), function, TRIANGLE, ((0, "c"), (2, "e"), (1, "d")))
            # The last outcome is not in the first room.
            self.fails(InvalidRing(3), function, TRIANGLE, ((0, "c"), (1, "e"), (2, "f")))
            self.fails(InvalidRing(4), function, ring_of(5), ((0, "b"), (1, "c"), (2, "d"), (3, "e")))


class RingsOfTests(Case):
    def test_all(self):
        for each in BOOKS:
            for size in range(3, 7 if len(each.rooms) < 7 else 6):
                self.assertEqual(rings_of(each, size), rings(each.rooms, size))
            self.assertEqual(short_rings(each), rings(each.rooms, 3) + rings(each.rooms, 4))

    def test_in_every_way(self):
        self.gives((ROUND,), rings_of, TRIANGLE, 3)
        self.gives((), rings_of, TRIANGLE, 6)
        self.gives((ROUND,), short_rings, TRIANGLE)
        self.gives(ROUND, shortest_ring, TRIANGLE)
        self.gives((((0, "b"), (1, "c"), (2, "d"), (3, "e"), (4, "a")),), rings_of, PENTAGON, 5)
        for each in [GRID, FANO, K5, HEXAGON]:
            for size in range(3, 7):
                self.gives(rings(each.rooms, size), rings_of, each, size)
            self.gives(short_rings(each), short_rings, each)
            self.gives(shortest_ring(each), shortest_ring, each)

    def test_shortest(self):
        for each in BOOKS:
            if len(each.rooms) < 8:
                found = [ring for size in range(3, len(each.rooms) + 1) for ring in rings(each.rooms, size)]
                self.assertEqual(shortest_ring(each), found[0] if found else None)
        for many in range(3, 11):
            ring = shortest_ring(ring_of(many))
            self.assertEqual(len(ring), many)
            self.assertEqual([room for room, _ in ring], list(range(many)))
        for each in [ONE, TWO, BOW, star(10), row_of(10), apart(8)]:
            self.gives(None, shortest_ring, each)
            self.gives((), short_rings, each)

    def test_large_books(self):
        for each in [LINES, FIVES, least_full(3, 5), TORN, pairs_book(8, [(a, 4 + b) for a in range(4) for b in range(4)])]:
            for size in range(3, 7):
                found = rings_of(each, size)
                self.assertEqual(found, tuple(sorted(set(found))))
                for ring in found[::50]:
                    self.assertIsNone(check_ring(each, ring))
        self.assertEqual([len(rings_of(least_full(3, 5), size)) for size in range(3, 7)], [0, 0, 12, 10])
        self.assertEqual(len(rings_of(pairs_book(6, [(a, b) for b in range(6) for a in range(b)]), 6)), 60)
        self.assertEqual(len(rings_of(FIVES, 3)), len(rings(FIVES.rooms, 3)))

    def test_shortest_ring_has_no_chords(self):
        for each in [SQUARE, PENTAGON, HEXAGON, least_full(3, 5), least_full(3, 4)] + made_books(13, 60):
            ring = shortest_ring(each)
            if ring is not None and len(ring) > 3:
                rooms = [room for room, _ in ring]
                for at, room in enumerate(rooms):
                    for other in set(rooms) - {room, rooms[at - 1], rooms[(at + 1) % len(rooms)]}:
                        self.assertFalse(set(each.rooms[room]) & set(each.rooms[other]))

    def test_wrong_sizes(self):
        for value in odd_values() + [2, 7, 0, -3, "3", 3.0, (3,)]:
            self.fails(InvalidNumber("size"), rings_of, TRIANGLE, value)


if __name__ == "__main__":
    unittest.main()
