"""Pieces and orders of rooms: point [22]."""

import unittest
from itertools import permutations

from common import Case, odd_values
from oracle import rings
from samples import (BOW, EIGHT, FANO, FIVE, GRID, HEXAGON, K6, LARGE, LINES, MIDDLE, ONE, PIECES, SMALL, SQUARE, TAILED,
                     TRIANGLE, TWO, UNLIKE, apart, book, made_books, ring_of, row_of, star)
from roomlooks.texts import read_book
from roomlooks.trees import check_room_order, extra_shares, pieces, room_order

BOOKS = SMALL + MIDDLE + LARGE + made_books(37, 40) + made_books(38, 60, 5)
TREE = book("c d e\na b c\nx y z\ne f g\nz v w\ng h i\nx t u")


def pieces_of(each):
    """The rooms that hang together, by putting together what shares an outcome."""
    lots = [set([room]) for room in range(len(each.rooms))]
    for outcome in each.outcomes():
        homes = set(each.rooms_of(outcome))
        hit = [lot for lot in lots if lot & homes]
        lots = [lot for lot in lots if not lot & homes] + [set().union(*hit)]
    return tuple(sorted([tuple(sorted(lot)) for lot in lots]))


def has_ring(each):
    if len(each.rooms) > 7:
        return extra_shares(each) > 0
    return any([rings(each.rooms, size) for size in range(3, len(each.rooms) + 1)])


def is_order(each, row):
    if sorted(row) != list(range(len(each.rooms))):
        return False
    earlier = set()
    for room in row:
        if len(earlier & set(each.rooms[room])) > 1:
            return False
        earlier |= set(each.rooms[room])
    return True


class PieceTests(Case):
    def test_pieces(self):
        for each in BOOKS + [TREE]:
            self.assertEqual(pieces(each), pieces_of(each))

    def test_in_every_way(self):
        self.gives(((0,),), pieces, ONE)
        self.gives(((0,), (1,)), pieces, TWO)
        self.gives(((0, 1),), pieces, BOW)
        self.gives(((0, 2), (1, 3), (4,)), pieces, PIECES)
        self.gives(tuple([(room,) for room in range(8)]), pieces, EIGHT)
        self.gives(((0, 1, 3, 5), (2, 4, 6)), pieces, TREE)


class ExtraTests(Case):
    def test_extra_shares(self):
        for each in BOOKS + [TREE]:
            shared = sum([len(each.rooms_of(name)) - 1 for name in each.shared()])
            wanted = shared - len(each.rooms) + len(pieces_of(each))
            self.assertEqual(extra_shares(each), wanted)
            self.assertGreaterEqual(wanted, 0)
            self.assertEqual(wanted == 0, not has_ring(each))

    def test_in_every_way(self):
        for each, many in [(ONE, 0), (TWO, 0), (BOW, 0), (TRIANGLE, 1), (SQUARE, 1), (HEXAGON, 1), (GRID, 4), (FANO, 8),
                           (K6, 10), (star(10), 0), (row_of(10), 0), (ring_of(10), 1), (LINES, 40 - 13 - 9)]:
            self.gives(many, extra_shares, each)


class OrderTests(Case):
    def test_orders(self):
        for each in BOOKS + [TREE]:
            found = room_order(each)
            if has_ring(each):
                self.assertIsNone(found)
                continue
            self.assertTrue(is_order(each, found))
            self.assertIs(check_room_order(each, found), True)
            left = list(range(len(each.rooms)))
            for at, room in enumerate(found):
                earlier = [name for other in found[:at] for name in each.rooms[other]]
                linked = [other for other in left if set(each.rooms[other]) & set(earlier)]
                self.assertEqual(room, (linked + left)[0])
                left.remove(room)

    def test_in_every_way(self):
        self.gives((0,), room_order, ONE)
        self.gives((0, 1), room_order, TWO)
        self.gives((0, 1, 3, 5, 2, 4, 6), room_order, TREE)
        self.gives((0, 2, 1, 3, 4), room_order, PIECES)
        for each in [TRIANGLE, SQUARE, HEXAGON, FANO, TAILED, book("a b c\nd e f\nd g h\nf h i")]:
            self.gives(None if has_ring(each) else room_order(each), room_order, each)
        self.gives((0, 1), room_order, read_book("a b c\nc d e"))

    def test_check_against_all(self):
        for each in [ONE, TWO, BOW, TRIANGLE, UNLIKE, SQUARE, PIECES, star(4), TAILED, ring_of(5)]:
            passed = 0
            for size in range(len(each.rooms) + 1):
                for row in permutations(range(len(each.rooms)), size):
                    self.assertIs(check_room_order(each, row), is_order(each, row))
                    passed += is_order(each, row)
            self.assertEqual(passed > 0, not has_ring(each))

    def test_spoilt(self):
        for row in [(0, 1, 2, 3), (0, 1), (0, 1, 1), (0, 1, 2, 2), (0, 1, 3), (-1, 0, 1), [0, 1, 2], (False, True, 2),
                    (0, True, 2), (0, 1.0, 2), ("0", "1", "2"), (2, 0), ((0, 1, 2),)]:
            self.gives(False, check_room_order, UNLIKE, row)
        self.gives(True, check_room_order, UNLIKE, (1, 2, 0))
        # The last room shares two outcomes with the two before it together.
        self.gives(False, check_room_order, UNLIKE, (2, 0, 1))
        self.gives(True, check_room_order, star(3), (2, 0, 1))

    def test_any_value(self):
        for value in odd_values():
            self.gives(False, check_room_order, BOW, value)
            self.gives(False, check_room_order, BOW, (0, value))
            self.gives(False, check_room_order, BOW, (value, 1, 0))
        self.gives(False, check_room_order, apart(2), ())


if __name__ == "__main__":
    unittest.main()
