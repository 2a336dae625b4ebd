"""Blocks: points [82] and [83]."""

import unittest
from itertools import combinations

from common import Case, Thing, odd_values
from oracle import rings, short_rings_of
from samples import (BOW, EIGHT, FANO, FIVE, GRID, HEXAGON, K5, LARGE, LINES, MIDDLE, ONE, PIECES, SMALL, SQUARE, TAILED,
                     TORN, TRIANGLE, TWO, apart, book, made_books, ring_of, row_of, star)
from roomlooks.apart import Bound, Split, block_plan, blocks, bound_or_split, check_block_plan, check_bound, sub_book
from roomlooks.books import Book
from roomlooks.errors import InvalidNumber
from roomlooks.texts import read_book

# Two rings of three that share the outcome "a", and two that share a room.
EIGHTS = book("a b c\nc d e\na e f\na g h\nh i j\na j k")
TWINS = book("a b c d\na e f\nb f g\nc h i\nd i j")
CHAIN = book("a b c\nc d e\na e f\nf g h\nh i j\nf j k\nx y z")
BOOKS = SMALL + MIDDLE + [EIGHTS, TWINS, CHAIN] + made_books(46, 40, 7) + made_books(47, 20, 4)


def all_rings(each):
    return [ring for size in range(3, len(each.rooms) + 1) for ring in rings(each.rooms, size)]


def blocks_of(each):
    """The blocks by the words: rings, each passing a room that the next one passes."""
    lots = [set([room]) for room in range(len(each.rooms))]
    for ring in all_rings(each):
        passed = set([room for room, _ in ring])
        hit = [lot for lot in lots if lot & passed]
        lots = [lot for lot in lots if not lot & passed] + [set().union(*hit)]
    return tuple(sorted([tuple(sorted(lot)) for lot in lots]))


def shared_by(each, rooms, others):
    one = set([name for room in rooms for name in each.rooms[room]])
    return sorted(one & set([name for room in others for name in each.rooms[room]]))


def is_plan(each, value):
    """Whether a tuple of pairs is a block plan, by the words."""
    if sorted([block for block, _ in value]) != list(blocks_of(each)):
        return False
    earlier = []
    for block, outcome in value:
        if shared_by(each, block, earlier) != ([] if outcome is None else [outcome]):
            return False
        earlier += block
    return True


def is_split(each, outcome, rooms):
    others = [room for room in range(len(each.rooms)) if room not in rooms]
    return bool(rooms and others) and shared_by(each, rooms, others) == ([] if outcome is None else [outcome])


def is_bound(each, found, value):
    """Whether a tuple of rings shows that the book is one block; `found` are all its rings."""
    passed = set()
    for at, ring in enumerate(value):
        own = set([room for room, _ in ring])
        if ring not in found or (at > 0 and not own & passed):
            return False
        passed |= own
    return len(passed) == len(each.rooms) or (value == () and len(each.rooms) == 1)


class SubTests(Case):
    def test_sub_books(self):
        for each in [ONE, BOW, GRID, TRIANGLE]:
            for many in range(1, len(each.rooms) + 1):
                for rooms in combinations(range(len(each.rooms)), many):
                    self.assertEqual(sub_book(each, rooms), Book(tuple([each.rooms[room] for room in rooms])))
        self.gives(Book((("c", "d", "e"),)), sub_book, BOW, (1,))
        self.gives(BOW, sub_book, BOW, (0, 1))

    def test_wrong_rooms(self):
        for value in odd_values() + [(), (2,), (0, 2), (1, 0), (0, 0), [0], (-1, 0), (False,), (0, True), 0, (0.0,), ("0",)]:
            self.fails(InvalidNumber("rooms"), sub_book, BOW, value)
            self.fails(InvalidNumber("rooms"), sub_book, BOW, (0, value))


class BlockTests(Case):
    def test_blocks(self):
        for each in BOOKS:
            self.assertEqual(blocks(each), blocks_of(each))
            torn = [short_rings_of(sub_book(each, block).rooms) != () for block in blocks(each)]
            self.assertEqual(any(torn), short_rings_of(each.rooms) != ())

    def test_in_every_way(self):
        self.gives(((0,),), blocks, ONE)
        self.gives(((0,), (1,)), blocks, BOW)
        self.gives(((0, 1, 2),), blocks, TRIANGLE)
        self.gives(((0, 1, 2), (3, 4, 5)), blocks, EIGHTS)
        self.gives(((0, 1, 2, 3, 4),), blocks, TWINS)
        self.gives(((0, 1, 2), (3, 4, 5), (6,)), blocks, CHAIN)
        self.gives(((0, 1, 2), (3,)), blocks, book("a b c\nc d e\na e f\nx y z"))
        for each in [EIGHT, star(10), row_of(10)]:
            self.gives(tuple([(room,) for room in range(len(each.rooms))]), blocks, each)
        for each in [LINES, FANO, ring_of(10), K5, GRID]:
            self.gives((tuple(range(len(each.rooms))),), blocks, each)


class PlanTests(Case):
    def test_plans(self):
        for each in BOOKS + LARGE:
            found = block_plan(each)
            self.assertIs(check_block_plan(each, found), True)
            if len(each.rooms) < 8:
                self.assertTrue(is_plan(each, found))

    def test_in_every_way(self):
        for each in [ONE, TWO, BOW, TRIANGLE, EIGHTS, CHAIN, PIECES, TAILED, FIVE]:
            self.gives(block_plan(each), block_plan, each)
            self.gives(True, check_block_plan, each, block_plan(each))
        self.gives((((0,), None),), block_plan, ONE)
        self.gives(True, check_block_plan, EIGHTS, (((3, 4, 5), None), ((0, 1, 2), "a")))
        self.gives(True, check_block_plan, PIECES, (((4,), None), ((3,), None), ((2,), None), ((0,), "c"), ((1,), "f")))

    def test_plans_join_to_the_book(self):
        for each in BOOKS:
            plan = block_plan(each)
            rooms = [each.rooms[room] for block, _ in plan for room in block]
            self.assertEqual(sorted(rooms), sorted(each.rooms))

    def test_spoilt(self):
        for each in [BOW, EIGHTS, CHAIN, PIECES, TAILED, row_of(4), star(3)]:
            good = block_plan(each)
            for at in range(len(good)):
                block, outcome = good[at]
                others = [None, "a", "z", (), each.outcomes()[-1]] + list(each.shared())
                for changed in ([(block, other) for other in others] + [(other, outcome) for other in [(), (0,), (0, 1), (9,)]]):
                    value = good[:at] + (changed,) + good[at + 1:]
                    wanted = isinstance(changed[1], (str, type(None))) and is_plan(each, value)
                    self.assertIs(check_block_plan(each, value), wanted, (each.rooms, value))
                for value in [good[:at] + good[at + 1:], good + (good[at],), list(good), good[:at] + (list(good[at]),) + good[at + 1:]]:
                    self.gives(False, check_block_plan, each, value)
                longer = good[:at] + ((block, outcome, None),) + good[at + 1:]
                self.gives(False, check_block_plan, each, longer)
            for start in range(1, len(good)):
                turned = good[start:] + good[:start]
                self.gives(is_plan(each, turned), check_block_plan, each, turned)
        # Two pieces of a book between which a block stands that shares an outcome with each.
        row = row_of(3)
        self.gives(False, check_block_plan, row, (((0,), None), ((2,), None), ((1,), "c")))
        self.gives(False, check_block_plan, row, (((0,), None), ((2,), None), ((1,), None)))
        self.gives(True, check_block_plan, row, (((2,), None), ((1,), "e"), ((0,), "c")))

    def test_any_value(self):
        for value in odd_values():
            self.gives(False, check_block_plan, BOW, value)
            self.gives(False, check_block_plan, BOW, (((0,), None), value))
            self.gives(False, check_block_plan, BOW, (((0,), None), (value, "c")))
            self.gives(False, check_block_plan, BOW, (((0,), None), ((1,), value)))
            self.gives(False, check_block_plan, BOW, (((0,), None), ((value,), "c")))
            if value is not None:
                self.gives(False, check_block_plan, BOW, (((0,), value), ((1,), "c")))
        for block in [(True,), (1.0,), [1]]:
            self.gives(False, check_block_plan, BOW, (((0,), None), (block, "c")))
        self.gives(True, check_block_plan, BOW, (((0,), None), ((1,), "c")))


class BoundTests(Case):
    def test_classes(self):
        self.assertEqual(vars(Bound(())), {"rings": ()})
        self.assertEqual(vars(Bound(rings=None)), {"rings": None})
        self.assertEqual(vars(Split("a", (0,))), {"outcome": "a", "rooms": (0,)})
        self.assertEqual(vars(Split(outcome=[], rooms=3)), {"outcome": [], "rooms": 3})

    def test_one_of_both(self):
        for each in BOOKS:
            found = bound_or_split(each)
            if len(blocks_of(each)) == 1:
                self.assertIsInstance(found, Bound)
                self.assertTrue(is_bound(each, all_rings(each), found.rings))
            else:
                self.assertIsInstance(found, Split)
                self.assertTrue(is_split(each, found.outcome, found.rooms))
            self.assertIs(check_bound(each, found), True)
        for each in LARGE:
            self.assertIs(check_bound(each, bound_or_split(each)), True)

    def test_in_every_way(self):
        for each in [ONE, TWO, BOW, TRIANGLE, HEXAGON, EIGHTS, TWINS, CHAIN, GRID, TORN, ring_of(10), LINES]:
            self.gives(bound_or_split(each), bound_or_split, each)
            self.gives(True, check_bound, each, bound_or_split(each))
        self.gives(Bound(()), bound_or_split, ONE)
        self.gives(True, check_bound, TRIANGLE, Bound(((((0, "c"), (1, "e"), (2, "a"))),) * 2))

    def test_all_splits(self):
        for each in [ONE, BOW, TWO, TRIANGLE, EIGHTS, PIECES, TAILED, row_of(4)]:
            passed = 0
            for many in range(len(each.rooms) + 1):
                for rooms in combinations(range(len(each.rooms)), many):
                    for outcome in (None,) + each.outcomes() + ("z",):
                        wanted = is_split(each, outcome, rooms)
                        passed += wanted
                        self.assertIs(check_bound(each, Split(outcome, rooms)), wanted)
            self.assertEqual(passed > 0, len(blocks_of(each)) > 1)

    def test_all_rows_of_rings(self):
        for each in [ONE, BOW, TRIANGLE, SQUARE, TWINS, EIGHTS, TAILED, book("a b c\nc d e\na e f\nb d f")]:
            found, passed = all_rings(each), 0
            for many in range(3):
                for rows in combinations(found, many):
                    for value in (rows, rows[::-1]):
                        wanted = is_bound(each, found, value)
                        passed += wanted
                        self.assertIs(check_bound(each, Bound(value)), wanted)
            self.assertEqual(passed > 0, len(blocks_of(each)) == 1)

    def test_rings_must_meet(self):
        # All rooms are passed, but the second ring passes no room of the first.
        each = book("a b c\nc d e\na e f\nb g h\nh i j\ng j d")
        found = [ring for ring in all_rings(each) if len(ring) == 3]
        self.assertEqual(len(blocks_of(each)), 1)
        apart_rings = (((0, "c"), (1, "e"), (2, "a")), ((3, "h"), (4, "j"), (5, "g")))
        self.assertEqual(tuple(found), apart_rings)
        self.gives(False, check_bound, each, Bound(apart_rings))
        self.gives(True, check_bound, each, bound_or_split(each))

    def test_spoilt(self):
        for each in [TRIANGLE, TWINS, GRID]:
            good = bound_or_split(each).rings
            for at, ring in enumerate(good):
                for other in [ring[::-1], ring[1:] + ring[:1], ring[:-1], list(ring), None, (), ring + ring[:1], "ring"]:
                    self.gives(False, check_bound, each, Bound(good[:at] + (other,) + good[at + 1:]))
            self.gives(False, check_bound, each, Bound(list(good)))
            self.gives(is_bound(each, all_rings(each), good[1:]), check_bound, each, Bound(good[1:]))
            self.gives(False, check_bound, each, Bound(()))
        self.gives(False, check_bound, TWO, Bound(()))
        self.gives(False, check_bound, apart(2), Bound(()))
        for rooms in [[0], (0, 1), (), (1, 0), (True,), (2,), None, 0, (0.0,)]:
            self.gives(False, check_bound, BOW, Split("c", rooms))
        for outcome in [None, "a", "d", "z", ("c",), ["c"], 0, True]:
            self.gives(False, check_bound, BOW, Split(outcome, (0,)))
            if outcome is not None:
                self.gives(False, check_bound, TWO, Split(outcome, (0,)))
        self.gives(True, check_bound, BOW, Split("c", (1,)))
        self.gives(True, check_bound, TWO, Split(None, (0,)))

    def test_any_value(self):
        for value in odd_values() + [Thing(rings=()), Thing(outcome="c", rooms=(0,))]:
            for each in [ONE, BOW, TRIANGLE]:
                self.gives(False, check_bound, each, value)
                self.gives(False, check_bound, each, Split("c", value))
                self.gives(False, check_bound, each, Split(value, (0,)))
                self.gives(False, check_bound, each, Bound(value))
                self.gives(False, check_bound, each, Bound((value,)))

    def test_from_texts(self):
        self.gives(Split("c", (0,)), bound_or_split, read_book("a b c\nc d e"))


if __name__ == "__main__":
    unittest.main()
