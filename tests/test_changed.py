"""What a new room changes: the opening of chapter 14 and point [88]."""

import unittest
from itertools import combinations

from common import Case, odd_values
from oracle import Model, far, short_rings_of
from samples import (BOW, EIGHT, FIVE, GRID, HEXAGON, LARGE, ONE, PENTAGON, SMALL, SQUARE, TRIANGLE, TWO, apart,
                     made_houses, row_of, star)
from roomlooks.books import Book
from roomlooks.changed import changed_joins, count_changed
from roomlooks.errors import InvalidBook, Refused, RoomError
from roomlooks.growth import free_lots, grown_book
from roomlooks.looks import count_sure
from roomlooks.sayings import all_sayings
from roomlooks.tables import join
from roomlooks.verdicts import House

HOUSES = [ONE, TWO, BOW, PENTAGON, HEXAGON, row_of(4), row_of(3, 4), star(3)] + made_houses(5, 6, 4)


def joins_that_change(each, room):
    """All pairs with a new join, by the words of points [23] and [88]."""
    old, new = Model(each.rooms), Model(each.rooms + (room,))
    found = []
    for one, other in combinations(old.sayings, 2):
        later = new.join(one, other)
        if later != old.join(one, other):
            found.append((one, other, later))
    return tuple(found)


def new_rooms(each):
    """Rooms that can be put behind the rooms of a house so that it stays one."""
    found = []
    for size in range(4):
        for many in range(3, 6):
            try:
                for lot in free_lots(each, size)[:40:9]:
                    found.append((grown_book(each, lot, size=many).rooms[-1], lot))
            except RoomError:
                pass
    return found


class ChangedTests(Case):
    def test_against_the_words(self):
        for each in HOUSES:
            if len(all_sayings(each)) < 45:
                for room, lot in new_rooms(each):
                    wanted = joins_that_change(each, room)
                    self.assertEqual(changed_joins(each, room), wanted)
                    self.assertEqual(count_changed(each, lot), len(wanted))
                    self.assertEqual(wanted == (), len(lot) < 2)

    def test_against_joins(self):
        for each in [apart(3, 5), EIGHT, row_of(7), row_of(5, 4)] + made_houses(6, 4, 6):
            for room, lot in new_rooms(each)[::3]:
                old, new = House(each), House(Book(each.rooms + (room,)))
                pairs = [(one, other, join(new, one, other)) for one, other in combinations(all_sayings(each), 2)]
                wanted = tuple([row for row in pairs if join(old, row[0], row[1]) != row[2]])
                self.assertEqual(changed_joins(each, room), wanted)
                self.assertEqual(count_changed(each, lot), len(wanted))

    def test_three_shared_outcomes(self):
        # The lot of two of them is the opposite of the third one, which an earlier room writes.
        each = apart(3)
        found = changed_joins(each, ("a", "d", "g"))
        self.assertIn((("a",), ("d",), ("h", "i")), found)
        self.assertIn((("a",), ("g",), ("e", "f")), found)
        self.assertIn((("d",), ("g",), ("b", "c")), found)
        self.assertIn((("a",), ("e", "f"), ("e", "f")), found)
        self.assertEqual(found, joins_that_change(each, ("a", "d", "g")))
        five = apart(5)
        room = ("a", "d", "g", "j", "m")
        self.assertEqual(changed_joins(five, room), joins_that_change(five, room))
        self.assertEqual(count_changed(five, room), len(joins_that_change(five, room)))

    def test_in_every_way(self):
        found = changed_joins(TWO, ("a", "d", "z"))
        self.assertEqual(found, joins_that_change(TWO, ("a", "d", "z")))
        self.assertEqual(len(found), 7)
        self.gives(found, changed_joins, TWO, ("a", "d", "z"))
        self.gives((), changed_joins, TWO, ("a", "y", "z"))
        self.gives((), changed_joins, TWO, ("x", "y", "z"))
        self.gives(7, count_changed, TWO, ("a", "d"))
        self.gives(0, count_changed, TWO, ("a",))
        self.gives(0, count_changed, TWO, ())

    def test_where_limits_forbid_the_room(self):
        lot = free_lots(row_of(10), 2)[0]
        self.gives(1 + sum([count_sure(row_of(10), name) - 1 for name in lot]), count_changed, row_of(10), lot)
        six = tuple([room[0] for room in apart(6).rooms])
        self.gives(15 + 5 * 6 * 3, count_changed, apart(6), six)
        eight = tuple([room[0] for room in EIGHT.rooms])
        self.gives(28 + 7 * 8 * 3, count_changed, EIGHT, eight)
        self.gives(1 + 2 * 15, count_changed, Book((FIVE.rooms[0], ("v", "w", "x", "y", "z"))), ("a", "v"))

    def test_no_longer_book(self):
        for value in odd_values() + [("a",), ("b", "a", "c"), ("a", "b", "z"), ("a", "a", "b"), ["a", "y", "z"], "ayz"]:
            self.fails(InvalidBook(2), changed_joins, TWO, value)
        self.fails(InvalidBook(-1), changed_joins, row_of(10), ("v", "w", "x"))
        self.fails(InvalidBook(-1), changed_joins, row_of(10), None)
        self.fails(InvalidBook(9), changed_joins, EIGHT, ("a", "d", "y"))
        self.fails(InvalidBook(8), changed_joins, EIGHT, ("a", "b", "y"))

    def test_no_house(self):
        self.fails(Refused("torn"), changed_joins, BOW, ("a", "d", "z"))
        self.fails(Refused("torn"), changed_joins, row_of(3), ("a", "g", "z"))
        self.fails(Refused("torn"), changed_joins, TRIANGLE, ("x", "y", "z"))
        self.fails(Refused("torn"), changed_joins, SQUARE, ("x", "y", "z"))
        self.fails(Refused("torn"), changed_joins, GRID, ("a", "y", "z"))
        self.fails(InvalidBook(3), changed_joins, TRIANGLE, ("a", "b", "z"))
        self.assertEqual(changed_joins(row_of(4), ("a", "i", "z")), joins_that_change(row_of(4), ("a", "i", "z")))

    def test_free_lots_keep_the_house(self):
        for each in [TWO, row_of(4), PENTAGON, apart(3)] + SMALL[:2] + LARGE[:1]:
            table = far(each.rooms)
            for room, lot in new_rooms(each):
                self.assertTrue(all([table[pair] is None or table[pair] >= 4 for pair in combinations(lot, 2)]))
                if short_rings_of(each.rooms) == () and len(each.rooms) < 7:
                    self.assertEqual(short_rings_of(each.rooms + (room,)), ())


if __name__ == "__main__":
    unittest.main()
