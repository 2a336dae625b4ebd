"""Outcomes apart and rooms to come: points [9] and [10]."""

import unittest
from itertools import combinations

from common import Case, odd_values
from samples import (BOW, EIGHT, FANO, FIVE, FIVES, GRID, LARGE, LINES, MIDDLE, ONE, SMALL, apart, book,
                     made_books, row_of, star)
from roomlooks.books import Book
from roomlooks.errors import InvalidNumber, Refused, RoomError
from roomlooks.spare import apart_lots, room_with

EXAMPLE = Book((("a", "b", "c"), ("c", "d", "e"), ("a", "e", "f")))


def are_apart(each, names):
    return not any([one in room and other in room for room in each.rooms for one, other in combinations(names, 2)])


def fits(each, names, room):
    """Whether a room has all names and can be put behind the rooms of the book."""
    try:
        Book(each.rooms + (room,))
    except RoomError:
        return False
    return set(names) <= set(room)


def some_room(each, names):
    """Whether there is a room with all names, by trying all outcomes and enough new names."""
    new = [name for name in ("va", "vb", "vc", "vd", "ve", "vf") if name not in names][:3]
    free = [name for name in each.outcomes() if name not in names and are_apart(each, names + (name,))]
    missing = max(0, 3 - len(names))
    if len(names) > 5:
        return False
    return any([fits(each, names, tuple(sorted(names + more))) for more in combinations(free + new, missing)])


class ApartTests(Case):
    def test_example(self):
        wanted = (("a", "d"), ("b", "d"), ("b", "e"), ("b", "f"), ("c", "f"), ("d", "f"))
        self.gives(wanted, apart_lots, EXAMPLE, 2)
        self.gives(None, room_with, EXAMPLE, ("a", "b"))

    def test_all_lots(self):
        for each in SMALL + MIDDLE + made_books(15, 20):
            for size in range(6):
                wanted = tuple([lot for lot in combinations(each.outcomes(), size) if are_apart(each, lot)])
                if len(wanted) <= 1000:
                    self.assertEqual(apart_lots(each, size), wanted)
                else:
                    with self.assertRaises(Refused):
                        apart_lots(each, size)
                    break

    def test_in_every_way(self):
        for each in [ONE, BOW, GRID, FANO]:
            self.gives(((),), apart_lots, each, 0)
            self.gives(tuple([(name,) for name in each.outcomes()]), apart_lots, each, 1)
            for size in range(2, 6):
                self.gives(apart_lots(each, size), apart_lots, each, size)
        self.gives((), apart_lots, FIVE, 2)
        self.gives((), apart_lots, FANO, 2)

    def test_too_many(self):
        # Eight rooms of three: 56 * 27 lots of three outcomes; five of four: 640 of three, 1,280 of four.
        self.assertEqual(len(apart_lots(EIGHT, 2)), 28 * 9)
        for size in (3, 4, 5):
            self.fails(Refused("wide"), apart_lots, EIGHT, size)
        five = apart(5, 4)
        self.assertEqual(len(apart_lots(five, 3)), 640)
        self.fails(Refused("wide"), apart_lots, five, 4)
        self.fails(Refused("wide"), apart_lots, five, 5)
        # Ten rooms of two outcomes and a shared one: 960 lots of three; four rooms of five: 500, then 625.
        self.assertEqual(len(apart_lots(star(10), 3)), 960)
        self.fails(Refused("wide"), apart_lots, star(10), 4)
        self.assertEqual([len(apart_lots(apart(4, 5), size)) for size in range(6)], [1, 20, 150, 500, 625, 0])

    def test_too_many_on_the_way(self):
        # Of size 5 there are fewer than 1,000 lots, of size 4 more.
        each = book("a b c d\ne f g h\ni j k l\nm n o p\nq r s t\na e i")
        counts = [len([lot for lot in combinations(each.outcomes(), size) if are_apart(each, lot)]) for size in range(6)]
        self.assertEqual([many > 1000 for many in counts], [False, False, False, False, True, False])
        self.fails(Refused("wide"), apart_lots, each, 4)
        self.fails(Refused("wide"), apart_lots, each, 5)

    def test_just_1000_and_1001(self):
        most = book("abc k zz\nab h k\nc d g\nabc j m n r\na ba f r t\nd j q s\nba d zz\nb o t")
        self.assertEqual([len(apart_lots(most, size)) for size in range(6)], [1, 20, 149, 536, 1000, 960])
        more = book("ab c p r\nab i s\ne g k\nn s zz\nh k t\nd e f r\nab b ba q\nf n o")
        self.assertEqual([len(apart_lots(more, size)) for size in range(5)], [1, 19, 138, 496, 956])
        self.fails(Refused("wide"), apart_lots, more, 5)

    def test_wrong_sizes(self):
        for value in odd_values() + [6, "2", (2,)]:
            self.fails(InvalidNumber("size"), apart_lots, BOW, value)
            self.fails(InvalidNumber("size"), apart_lots, EIGHT, value)


class RoomTests(Case):
    def check_room(self, each, names):
        found = room_with(each, names)
        if found is not None:
            self.assertTrue(fits(each, names, found), (each.rooms, names, found))
        self.assertEqual(found is not None, some_room(each, names), (each.rooms, names))

    def test_all_lots(self):
        for each in SMALL + [GRID, FANO, LINES] + made_books(16, 25):
            names = tuple(sorted(each.outcomes() + ("new", "yy")))
            for size in range(4):
                for lot in list(combinations(names, size))[::7 if size == 3 else 1]:
                    self.check_room(each, lot)

    def test_in_every_way(self):
        for names in [(), ("a",), ("d",), ("a", "d"), ("b", "d", "f"), ("b", "new"), ("c", "new", "old", "x", "y")]:
            found = room_with(EXAMPLE, names)
            self.assertTrue(fits(EXAMPLE, names, found))
            self.gives(found, room_with, EXAMPLE, names)
        for names in [("a", "b"), ("a", "d", "e"), ("u", "v", "w", "x", "y", "z")]:
            self.gives(None, room_with, EXAMPLE, names)

    def test_ten_rooms(self):
        for each in [row_of(10), star(10), LINES, FIVES]:
            for names in [(), ("a",), ("va", "vb", "vc")]:
                self.gives(None, room_with, each, names)

    def test_full_of_outcomes(self):
        for each in [EIGHT, apart(6, 4), LARGE[-1], apart(5, 4)]:
            for names in [(), ("a",), ("a", "m"), ("a", "va"), ("va",), ("a", "e", "m"), ("va", "vb", "vc", "vd", "ve")]:
                self.check_room(each, names)
        self.gives(None, room_with, EIGHT, ("new",))
        self.gives(None, room_with, EIGHT, ("a", "b"))
        self.assertIsNotNone(room_with(EIGHT, ()))
        self.assertIsNotNone(room_with(EIGHT, ("a", "d")))

    def test_few_outcomes_apart(self):
        # 24 outcomes, and those of the first room are nowhere far from enough others.
        each = book("a b c d e\na f g h i\na j k l m\na n o p q\nb r s t u\nc v w x f")
        self.assertEqual(len(each.outcomes()), 24)
        for names in [()] + [(name,) for name in each.outcomes()] + list(combinations(each.outcomes(), 2)):
            self.check_room(each, names)
        tight = book("a b c d e\na f g h i\na j k l m\na n o p q\na r s t u\nb v w f x")
        for names in [()] + [(name,) for name in tight.outcomes()] + list(combinations(tight.outcomes(), 2)):
            self.check_room(tight, names)
        self.assertIsNotNone(room_with(tight, ()))
        self.gives(None, room_with, tight, ("a",))

    def test_with_23_outcomes(self):
        each = book("a b c d e\na f g h i\na j k l m\na n o p q\na r s t u\nb f v w")
        self.assertEqual(len(each.outcomes()), 23)
        for names in [(), ("a",), ("a", "v"), ("new",), ("a", "new"), ("new", "old"), ("v",)]:
            self.check_room(each, names)


if __name__ == "__main__":
    unittest.main()
