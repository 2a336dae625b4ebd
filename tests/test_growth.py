"""Ways, closed rings and free lots: the opening of chapter 14 and points [85] to [87]."""

import unittest
from itertools import combinations

from common import Case, odd_values
from oracle import far, rings, ways
from samples import (BOW, EIGHT, FANO, FIVES, GRID, HEXAGON, LINES, MIDDLE, PENTAGON, PIECES, SMALL, SQUARE, TAILED,
                     TRIANGLE, TWO, apart, book, made_books, ring_of, row_of)
from roomlooks.books import Book
from roomlooks.errors import InvalidBook, InvalidNumber, Refused, RoomError
from roomlooks.growth import (closed_rings, distance, first_way, free_lots, greatest_free_lots, grown_book, may_share,
                              nearest_two, ways_between)

BOOKS = SMALL + MIDDLE[:5] + made_books(22, 12, 6)


def is_free(table, lot):
    return all([table[pair] is None or table[pair] >= 4 for pair in combinations(lot, 2)])


class WayTests(Case):
    def test_distance_and_ways(self):
        for each in BOOKS:
            table = far(each.rooms)
            names = each.outcomes()
            for one in names:
                for other in names[::2]:
                    self.assertEqual(distance(each, one, other), table[one, other])
                    if one != other:
                        self.check_ways(each, one, other, table[one, other])

    def check_ways(self, each, one, other, least):
        found = {size: ways(each.rooms, one, other, size) for size in range(1, 5)}
        for size in found:
            self.assertEqual(ways_between(each, one, other, size), found[size])
            self.assertTrue(found[size] == () or least <= size)
        first = first_way(each, one, other)
        if least is None:
            self.assertIsNone(first)
        elif least <= 4:
            self.assertEqual(first, found[least][0])
        else:
            self.assertEqual(first, ways(each.rooms, one, other, least)[0])

    def test_in_every_way(self):
        self.gives(0, distance, BOW, "a", "a")
        self.gives(1, distance, BOW, "a", "b")
        self.gives(2, distance, BOW, "a", "d")
        self.gives(None, distance, TWO, "a", "d")
        self.gives((((0, "b"),),), ways_between, BOW, "a", "b", 1)
        self.gives((((0, "c"), (1, "d")),), ways_between, BOW, "a", "d", 2)
        self.gives((), ways_between, BOW, "a", "d", 4)
        self.gives(((0, "c"), (1, "d")), first_way, BOW, "a", "d")
        self.gives(None, first_way, TWO, "a", "d")
        for each in [SQUARE, GRID, FANO]:
            for size in range(1, 5):
                self.gives(ways(each.rooms, "a", "c", size), ways_between, each, "a", "c", size)

    def test_large_books(self):
        long = row_of(10)
        ends = (long.rooms[0][0], long.rooms[-1][-1])
        self.assertEqual(distance(long, *ends), 10)
        self.assertEqual([room for room, _ in first_way(long, *ends)], list(range(10)))
        for each in [LINES, FIVES]:
            names = each.outcomes()
            for size in range(1, 5):
                found = ways_between(each, names[0], names[-1], size)
                self.assertEqual(found, ways(each.rooms, names[0], names[-1], size))
        self.assertEqual(distance(ring_of(10), "a", "f"), 5)
        self.assertIsNone(distance(EIGHT, "a", "x"))

    def test_wrong_sizes(self):
        for value in odd_values() + [0, 5, "2", (2,)]:
            self.fails(InvalidNumber("size"), ways_between, BOW, "a", "d", value)


class ClosedTests(Case):
    def closed(self, each, lot, size):
        """The rings by the words: the new room, and a way from one outcome to another one."""
        last, found = len(each.rooms), []
        for one in lot:
            for other in lot:
                if one != other:
                    found.extend([((last, one),) + way for way in ways(each.rooms, one, other, size - 1)])
        return tuple(sorted(set([self.written(ring) for ring in found])))

    def written(self, ring):
        back = [(ring[-k][0], ring[-k - 1][1]) for k in range(len(ring))]
        both = []
        for pairs in (list(ring), back):
            at = pairs.index(min(pairs))
            both.append(tuple(pairs[at:] + pairs[:at]))
        return [pairs for pairs in both if pairs[1][0] < pairs[-1][0]][0]

    def test_by_the_words(self):
        for each in SMALL + [PENTAGON, GRID, FANO] + made_books(23, 8, 5):
            lots = [lot for size in (2, 3) for lot in combinations(each.outcomes(), size)]
            for lot in [(), each.outcomes()[:1]] + lots[::5]:
                for size in (3, 4, 5):
                    self.assertEqual(closed_rings(each, lot, size), self.closed(each, lot, size))

    def test_by_the_longer_book(self):
        for each in SMALL + [PENTAGON, HEXAGON, GRID] + made_books(24, 12, 6):
            for lot in list(combinations(each.outcomes(), 2))[::3] + list(combinations(each.outcomes(), 3))[::29]:
                try:
                    longer = grown_book(each, lot, size=3)
                except RoomError:
                    continue
                for size in (3, 4, 5):
                    last = len(each.rooms)
                    through = [ring for ring in rings(longer.rooms, size) if last in [room for room, _ in ring]]
                    self.assertEqual(closed_rings(each, lot, size), tuple(through))

    def test_in_every_way(self):
        self.gives((), closed_rings, BOW, (), 3)
        self.gives((), closed_rings, BOW, ("a",), 3)
        self.gives((((0, "c"), (1, "d"), (2, "a")),), closed_rings, BOW, ("a", "d"), 3)
        self.gives((), closed_rings, BOW, ("a", "d"), 4)
        self.gives((), closed_rings, BOW, ("a", "b"), 3)
        # By the ways alone: such a room cannot be put behind these, or there is no place for it.
        self.gives((((0, "a"), (2, "e"), (1, "c"), (3, "b")),), closed_rings, TRIANGLE, ("b", "c"), 4)
        ten = ring_of(10)
        lot = (ten.rooms[0][0], ten.rooms[2][1])
        found = closed_rings(ten, lot, 5) + closed_rings(ten, lot, 4) + closed_rings(ten, lot, 3)
        self.assertTrue(all([(10, lot[0]) in ring or (10, lot[1]) in ring for ring in found]))
        self.assertNotEqual(found, ())

    def test_wrong_sizes(self):
        for value in odd_values() + [2, 6, "3", (3,)]:
            self.fails(InvalidNumber("size"), closed_rings, BOW, ("a", "d"), value)
            self.fails(InvalidNumber("size"), closed_rings, BOW, (), value)


class FreeTests(Case):
    def test_may_share_and_nearest_two(self):
        for each in BOOKS + [row_of(6), row_of(5, 4)]:
            table = far(each.rooms)
            lots = [lot for size in range(4) for lot in combinations(each.outcomes(), size)]
            for lot in lots[::1 + len(lots) // 150]:
                self.assertIs(may_share(each, lot), is_free(table, lot))
                if is_free(table, lot):
                    self.assertIsNone(nearest_two(each, lot))
                else:
                    pairs = [(table[pair],) + pair for pair in combinations(lot, 2) if table[pair] is not None]
                    least = min(pairs)
                    wanted = (least[1], least[2], ways(each.rooms, least[1], least[2], least[0])[0])
                    self.assertEqual(nearest_two(each, lot), wanted)

    def test_free_lots(self):
        for each in BOOKS + [row_of(6), row_of(10), ring_of(10), ring_of(8)]:
            table = far(each.rooms)
            every = []
            for size in range(6):
                found = tuple([lot for lot in combinations(each.outcomes(), size) if is_free(table, lot)])
                if len(found) > 1000:
                    break
                every.extend(found)
                self.assertEqual(free_lots(each, size), found)
            else:
                greatest = [lot for lot in every if not any([set(lot) < set(other) for other in every])]
                self.assertEqual(greatest_free_lots(each), tuple(sorted(greatest, key=lambda lot: (len(lot), lot))))

    def test_free_lots_close_no_short_ring(self):
        for each in [PENTAGON, HEXAGON, row_of(5), ring_of(8)] + made_books(25, 6, 6):
            for lot in list(combinations(each.outcomes(), 2)) + list(combinations(each.outcomes(), 3))[::9]:
                if all([each.room_of_two(*pair) is None for pair in combinations(lot, 2)]):
                    closed = closed_rings(each, lot, 3) + closed_rings(each, lot, 4)
                    self.assertEqual(may_share(each, lot), closed == ())

    def test_in_every_way(self):
        self.gives(True, may_share, BOW, ())
        self.gives(True, may_share, BOW, ("a",))
        self.gives(False, may_share, BOW, ("a", "d"))
        self.gives(True, may_share, TWO, ("a", "d"))
        self.gives(None, nearest_two, TWO, ("a", "d"))
        self.gives(("a", "d", ((0, "c"), (1, "d"))), nearest_two, BOW, ("a", "d"))
        self.gives(("a", "b", ((0, "b"),)), nearest_two, BOW, ("a", "b", "d"))
        self.gives(("b", "c", ((0, "c"),)), nearest_two, PIECES, ("b", "c", "x"))
        self.gives(((),), free_lots, BOW, 0)
        self.gives((), free_lots, BOW, 2)
        self.gives((("a", "d"), ("a", "e"), ("a", "f"), ("b", "d"), ("b", "e"), ("b", "f"), ("c", "d"), ("c", "e"),
                    ("c", "f")), free_lots, TWO, 2)
        self.gives(tuple([(name,) for name in BOW.outcomes()]), greatest_free_lots, BOW)
        self.gives(free_lots(TWO, 2), greatest_free_lots, TWO)
        self.gives(tuple(sorted([(p, q, r) for p in "abc" for q in "def" for r in "ghi"])), greatest_free_lots, apart(3))

    def test_too_many(self):
        for size in (3, 4, 5):
            self.fails(Refused("wide"), free_lots, EIGHT, size)
        self.fails(Refused("wide"), greatest_free_lots, EIGHT)
        self.assertEqual(len(free_lots(EIGHT, 2)), 252)
        five = book("a b c d\ne f g h\ni j k l\nm n o p\nq r s t\na u v")
        self.assertTrue(len(free_lots(five, 3)) <= 1000)
        self.fails(Refused("wide"), free_lots, five, 4)
        self.fails(Refused("wide"), free_lots, five, 5)
        self.fails(Refused("wide"), greatest_free_lots, five)
        self.assertEqual(len(free_lots(apart(4, 5), 4)), 625)
        self.assertEqual(free_lots(apart(4, 5), 5), ())
        self.assertEqual(greatest_free_lots(apart(4, 5)), free_lots(apart(4, 5), 4))

    def test_just_1000(self):
        # Four pieces with 5, 5, 5 and 8 outcomes: 5 * 5 * 5 * 8 free lots of four.
        each = book("a b c d e\nf g h i j\nk l m n o\np q r s t\np u v w")
        self.assertEqual([len(free_lots(each, size)) for size in range(6)], [1, 23, 195, 725, 1000, 0])
        self.assertEqual(greatest_free_lots(each), free_lots(each, 4))
        self.assertEqual(len(greatest_free_lots(apart(5, 3))), 243)

    def test_wrong_sizes(self):
        for value in odd_values() + [6, "2", (2,)]:
            self.fails(InvalidNumber("size"), free_lots, BOW, value)
            self.fails(InvalidNumber("size"), free_lots, EIGHT, value)


class GrownTests(Case):
    def test_in_every_way(self):
        self.gives(Book(BOW.rooms + (("a", "d", "f"),)), grown_book, BOW, ("a", "d"))
        self.gives(Book(BOW.rooms + (("a", "d", "f"),)), grown_book, BOW, ("a", "d"), size=3)
        self.gives(Book(BOW.rooms + (("a", "f", "g", "h", "i"),)), grown_book, BOW, ("a",), size=5)
        self.gives(Book(BOW.rooms + (("f", "g", "h"),)), grown_book, BOW, ())
        self.gives(Book(TAILED.rooms + (("b", "d", "g", "j"),)), grown_book, TAILED, ("b", "d", "g"), size=4)
        with self.assertRaises(TypeError):
            grown_book(BOW, ("a",), 4)

    def test_first_names(self):
        each = book("b c x\nx y z")
        self.gives(Book(each.rooms + (("a", "d", "e"),)), grown_book, each, ())
        full = book("a b c d e\nf g h i j\nk l m n o\np q r s t\nu v w")
        self.fails(InvalidBook(6), grown_book, full, ("a", "u"), size=4)
        self.gives(Book(full.rooms + (("a", "u", "x"),)), grown_book, full, ("a", "u"))
        # Names of two letters come behind those of one.
        names = "acdefghijklmnopqrstuvwxyz"
        long = book(" ".join(names[:5]) + "\n" + " ".join(names[5:10]) + "\n" + " ".join(names[10:15]))
        self.assertEqual(grown_book(long, (), size=5).rooms[3], ("b", "q", "r", "s", "t"))

    def test_names_of_two_letters(self):
        letters = "abcdefghijklmnopqrstuvwxyz"
        rooms = tuple([tuple(letters[k:k + 3]) for k in range(0, 21, 3)])
        self.assertEqual(grown_book(Book(rooms), ()).rooms[-1], ("v", "w", "x"))
        used = Book(rooms[:6] + (("s", "t", "u", "v", "w"),))
        self.fails(InvalidBook(8), grown_book, used, ())
        self.assertEqual(grown_book(used, ("a", "d")).rooms[-1], ("a", "d", "x"))

    def test_wrong_sizes(self):
        for value in odd_values() + [2, 6, "3", (3,)]:
            self.fails(InvalidNumber("size"), grown_book, BOW, ("a", "d"), size=value)
        self.fails(InvalidNumber("size"), grown_book, apart(5), ("a", "d", "g", "j"), size=3)
        self.fails(InvalidNumber("size"), grown_book, apart(5), ("a", "d", "g", "j"))
        self.gives(Book(apart(5).rooms + (("a", "d", "g", "j"),)), grown_book, apart(5), ("a", "d", "g", "j"), size=4)
        six = ("a", "d", "g", "j", "m", "p")
        for size in range(2, 8):
            self.fails(InvalidNumber("size"), grown_book, apart(6), six, size=size)

    def test_no_book(self):
        self.fails(InvalidBook(-1), grown_book, row_of(10), ("a",))
        self.fails(InvalidNumber("size"), grown_book, row_of(10), ("a",), size=2)
        self.fails(InvalidBook(2), grown_book, BOW, ("a", "b"))
        self.fails(InvalidBook(9), grown_book, EIGHT, ("a",))
        self.fails(InvalidBook(9), grown_book, EIGHT, ())
        self.fails(InvalidBook(8), grown_book, EIGHT, ("a", "b"))
        self.gives(Book(EIGHT.rooms + (("a", "d", "g"),)), grown_book, EIGHT, ("a", "d", "g"))


if __name__ == "__main__":
    unittest.main()
