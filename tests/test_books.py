"""Errors and books: points [5] to [8]."""

import unittest

from common import Case, Thing, odd_values
from samples import BOW, FANO, GRID, LARGE, MIDDLE, PIECES, SMALL, TRIANGLE, apart, book, made_books, row_of, star
from roomlooks import errors
from roomlooks.books import Book, crossings, renamed
from roomlooks.errors import InvalidBook, Refused

ALL_BOOKS = SMALL + MIDDLE + LARGE + made_books(1, 30)


class ErrorTests(unittest.TestCase):
    def test_each_keeps_its_argument(self):
        for name in ["InvalidBook", "InvalidText", "InvalidSaying", "InvalidTerm", "InvalidRing",
                     "InvalidWeight", "InvalidLook"]:
            made = getattr(errors, name)
            self.assertEqual(made(3).at, 3)
            self.assertEqual(vars(made(at=-1)), {"at": -1})
        for name in ["InvalidNumber", "Refused"]:
            made = getattr(errors, name)
            self.assertEqual(made("size").word, "size")
            self.assertEqual(vars(made(word="wide")), {"word": "wide"})
        self.assertEqual(vars(errors.NoWeight()), {})

    def test_who_comes_from_whom(self):
        self.assertEqual(errors.RoomError.__bases__, (ValueError,))
        found = [name for name in vars(errors) if not name.startswith("_")]
        self.assertEqual(len(found), 11)
        for name in found:
            if name != "RoomError":
                self.assertEqual(getattr(errors, name).__bases__, (errors.RoomError,))


class BookTests(Case):
    def test_rooms(self):
        rooms = (("a", "b", "c"), ("c", "d", "e"))
        self.assertEqual(Book(rooms).rooms, rooms)
        self.assertEqual(Book(rooms=rooms).rooms, rooms)
        self.gives(Book(rooms), Book, rooms)

    def test_names_sizes_and_bounds(self):
        for room in [("a", "b", "c"), ("a", "ab", "abcde"), ("a", "abcde", "b"), ("a", "b", "c", "d"),
                     ("a", "b", "c", "d", "zzzzz")]:
            self.assertEqual(Book((room,)).rooms, (room,))
        self.assertEqual(len(row_of(10).rooms), 10)
        self.assertEqual(len(apart(8).outcomes()), 24)
        self.assertEqual(len(apart(6, 4).outcomes()), 24)

    def test_no_tuple_or_another_length(self):
        for value in odd_values():
            if not isinstance(value, tuple):
                self.fails(InvalidBook(-1), Book, value)
        self.fails(InvalidBook(-1), Book, ())
        self.fails(InvalidBook(-1), Book, [("a", "b", "c")])
        self.fails(InvalidBook(-1), Book, star(10).rooms + (("x", "y", "z"),))
        self.fails(InvalidBook(-1), Book, (None,) * 11)

    def test_items_that_are_no_rooms(self):
        good = ("a", "b", "c")
        wrong = [("a", "b"), ("a", "b", "c", "d", "e", "f"), ("b", "a", "c"), ("a", "a", "b"), ("a", "b", "b"),
                 ("a", "abcdef", "b"), ("", "a", "b"), ("A", "a", "b"), ("a", "b", "c1"), ("a", "b", "c\n"),
                 ("a", "b", "\u00e9"), ("a", "b", None), ("a", "b", True), ("a", "b", ["c"]), ("a", ("b",), "c"),
                 ["a", "b", "c"], "abc", {"a": 1, "b": 2, "c": 3}, (b"a", b"b", b"c"), (1, 2, 3), (Thing(), "a", "b")]
        for item in wrong + odd_values():
            self.fails(InvalidBook(0), Book, (item,))
            self.fails(InvalidBook(1), Book, (good, item))
            self.fails(InvalidBook(0), Book, (item, good, item))

    def test_two_outcomes_in_common(self):
        self.fails(InvalidBook(1), Book, (("a", "b", "c"), ("a", "b", "d")))
        self.fails(InvalidBook(1), Book, (("a", "b", "c"), ("a", "b", "c")))
        self.fails(InvalidBook(2), Book, (("a", "b", "c"), ("x", "y", "z"), ("b", "c", "d"), ("a",)))
        self.fails(InvalidBook(2), Book, (("a", "b", "c"), ("c", "d", "e"), ("a", "d", "e")))
        self.assertEqual(len(Book((("a", "b", "c"), ("c", "d", "e"), ("a", "d", "f"))).rooms), 3)

    def test_too_many_outcomes(self):
        rooms = tuple([tuple("abcdefghijklmnopqrstuvwxy"[k * 5:k * 5 + 5]) for k in range(5)])
        self.fails(InvalidBook(5), Book, rooms)
        self.assertEqual(len(Book(rooms[:4] + (rooms[4][:4],)).outcomes()), 24)
        self.fails(InvalidBook(0), Book, (("b", "a", "c"),) + rooms)
        self.fails(InvalidBook(5), Book, rooms + (("a", "b", "z"),))

    def test_equal(self):
        one, other = book("a b c\nc d e"), book("a b c\nc d e")
        self.assertTrue(one == other)
        self.assertFalse(one != other)
        self.assertFalse(one == book("c d e\na b c"))
        self.assertTrue(one != book("a b c"))
        for value in odd_values() + [one.rooms, Thing(rooms=one.rooms)]:
            self.assertFalse(one == value)
            self.assertTrue(one != value)


class TellingTests(Case):
    def test_outcomes_and_shared(self):
        for each in ALL_BOOKS:
            names = [name for room in each.rooms for name in room]
            self.gives(tuple(sorted(set(names))), each.outcomes)
            self.gives(tuple(sorted([name for name in set(names) if names.count(name) > 1])), each.shared)
        self.assertEqual(apart(3).shared(), ())
        self.assertEqual(star(10).shared(), ("a",))

    def test_rooms_of(self):
        for each in ALL_BOOKS:
            for name in each.outcomes():
                wanted = tuple([k for k, room in enumerate(each.rooms) if name in room])
                self.assertEqual(each.rooms_of(name), wanted)
        self.gives((0, 1), BOW.rooms_of, "c")
        self.gives(tuple(range(10)), star(10).rooms_of, "a")
        self.assertEqual(BOW.rooms_of(outcome="a"), (0,))
        for value in odd_values() + ["z", ("a",), 0]:
            self.gives((), BOW.rooms_of, value)

    def test_room_of_two(self):
        for each in ALL_BOOKS[:30]:
            for one in each.outcomes():
                for other in each.outcomes():
                    own = [k for k, room in enumerate(each.rooms) if one in room and other in room]
                    self.assertEqual(each.room_of_two(one, other), own[0] if own else None)
                    self.assertTrue(one == other or len(own) < 2)
        self.gives(1, BOW.room_of_two, "e", "c")
        self.gives(0, BOW.room_of_two, "c", "c")
        for value in odd_values():
            self.gives(None, BOW.room_of_two, value, "a")
            self.gives(None, BOW.room_of_two, "a", value)
            self.gives(None, BOW.room_of_two, value, value)

    def test_crossings(self):
        example = Book((("a", "b", "c"), ("c", "d", "e"), ("a", "e", "f")))
        self.gives(((0, 1, "c"), (0, 2, "a"), (1, 2, "e")), crossings, example)
        self.gives((), crossings, apart(8))
        for each in ALL_BOOKS:
            wanted = [(r, s, p) for r, one in enumerate(each.rooms) for s, other in enumerate(each.rooms)
                      for p in one if r < s and p in other]
            self.assertEqual(crossings(each), tuple(sorted(wanted)))

    def test_renamed(self):
        example = Book((("a", "b", "c"), ("c", "d", "e"), ("a", "e", "f")))
        names = {"a": "c", "b": "b", "c": "a", "d": "d", "e": "e", "f": "z"}
        wanted = (("a", "b", "c"), ("a", "d", "e"), ("c", "e", "z"))
        self.gives(Book(wanted), renamed, example, names)
        self.gives(Book(wanted), renamed, example, dict(names, more="a", other=None))
        for each in ALL_BOOKS:
            self.assertEqual(renamed(each, {name: name for name in each.outcomes()}), each)
            turned = dict(zip(each.outcomes(), reversed(each.outcomes())))
            self.assertEqual(renamed(renamed(each, turned), turned), each)

    def test_renamed_with_one_name_twice(self):
        names = {name: name for name in FANO.outcomes()}
        self.fails(Refused("names"), renamed, FANO, dict(names, a="b"))
        self.fails(Refused("names"), renamed, PIECES, dict({n: n for n in PIECES.outcomes()}, a="z"))
        self.assertEqual(renamed(TRIANGLE, dict({n: n for n in TRIANGLE.outcomes()}, z="a")), TRIANGLE)

    def test_later_changes_of_an_argument(self):
        names = {name: name for name in GRID.outcomes()}
        made = renamed(GRID, names)
        names["a"] = "z"
        self.assertEqual(made, GRID)


if __name__ == "__main__":
    unittest.main()
