"""Books that change: the opening of chapter 16, points [96] and [97]."""

import unittest
from itertools import permutations

from common import Case, odd_values
from oracle import Model, rings
from samples import (BOW, EIGHT, FANO, FIVE, GRID, HEXAGON, K5, LARGE, LINES, ONE, PIECES, SMALL, SQUARE, TAILED, TRIANGLE, TWO,
                     UNLIKE, apart, book, made_books, row_of, star)
from roomlooks.books import Book
from roomlooks.edits import book_with, extends, gone, lost, rewritten, ring_over, without_room
from roomlooks.errors import InvalidBook, InvalidNumber, InvalidRing, InvalidSaying, RoomError
from roomlooks.texts import read_book

OLD, NEW = book("a b c\nc d e"), book("c d e\na e f")


def parts_of(each):
    """Books made of some rooms of a book, in several sequences, and with a room more."""
    rooms = each.rooms
    found = [Book(rooms[:many]) for many in range(1, len(rooms))] + [Book(rooms[many:]) for many in range(1, len(rooms))]
    found += [Book(rooms[::-1]), Book(rooms[1:] + rooms[:1])]
    if len(rooms) < 10 and len(each.outcomes()) < 22:
        found.append(Book((("xxa", "xxb", "xxc"),) + rooms))
        found.append(Book(rooms[:1] + ((each.outcomes()[0], "zzb", "zzc"),) + rooms[1:]))
    return found


def couples():
    """Pairs of an old and a new book."""
    found = [(OLD, NEW), (NEW, OLD), (ONE, TWO), (BOW, FIVE), (TRIANGLE, book("a c z\nc d e")), (GRID, book("a b c\na d g\nb d x"))]
    for each in SMALL + made_books(54, 6, 5):
        found += [(each, other) for other in parts_of(each)] + [(other, each) for other in parts_of(each)]
    made = made_books(55, 10, 4)
    return found + [(one, other) for one in made[:4] for other in made[4:]]


COUPLES = couples()


def stays(old, new, model, saying):
    """What the new book writes for a saying, by the words of point [97]."""
    if saying == ():
        return ()
    if saying == model.all:
        return new.rooms[0]
    later = Model(new.rooms)
    found = set([later.saying(new.rooms.index(old.rooms[room]), lot) for room, lot in model.forms[saying]
                 if old.rooms[room] in new.rooms])
    assert len(found) < 2
    return found.pop() if found else None


class RoomTests(Case):
    def test_extends(self):
        for old, new in COUPLES:
            self.assertIs(extends(new, old), set(old.rooms) <= set(new.rooms))
        self.gives(True, extends, TWO, ONE)
        self.gives(False, extends, ONE, TWO)
        self.gives(True, extends, BOW, book("c d e\na b c"))
        self.gives(False, extends, OLD, NEW)

    def test_book_with(self):
        for each in SMALL + [K5, FIVE]:
            for at in range(len(each.rooms) + 1):
                rooms = list(each.rooms)
                rooms.insert(at, ("x", "yy", "zz"))
                try:
                    wanted = Book(tuple(rooms))
                except RoomError:
                    continue
                self.gives(wanted, book_with, each, ("x", "yy", "zz"), at=at)
        longer = Book(BOW.rooms + (("a", "d", "x"),))
        self.gives(longer, book_with, BOW, ("a", "d", "x"))
        self.gives(longer, book_with, BOW, ("a", "d", "x"), at=None)
        self.gives(longer, book_with, BOW, ("a", "d", "x"), at=2)
        self.gives(Book((("a", "d", "x"),) + BOW.rooms), book_with, BOW, ("a", "d", "x"), at=0)

    def test_wrong_rooms(self):
        for value in odd_values():
            self.fails(InvalidBook(2), book_with, BOW, value)
            self.fails(InvalidBook(0), book_with, BOW, value, at=0)
            self.fails(InvalidBook(1), book_with, BOW, ("x", "y", value), at=1)
        self.fails(InvalidBook(2), book_with, BOW, ("a", "b", "x"))
        # Before the room that it crosses twice, the later one is the wrong one.
        self.fails(InvalidBook(1), book_with, BOW, ("a", "b", "x"), at=0)
        self.fails(InvalidBook(2), book_with, BOW, ("d", "e", "x"), at=1)
        self.fails(InvalidBook(2), book_with, BOW, ("a", "b", "c"))
        self.fails(InvalidBook(-1), book_with, LINES, ("x", "y", "z"))
        self.fails(InvalidBook(-1), book_with, LINES, None, at=10)
        self.fails(InvalidBook(9), book_with, EIGHT, ("x", "y", "z"))
        self.fails(InvalidBook(9), book_with, EIGHT, ("a", "d", "z"), at=3)

    def test_wrong_places(self):
        for value in odd_values() + [3, "0", (0,), 2.0]:
            if value is not None:
                self.fails(InvalidNumber("at"), book_with, BOW, ("x", "y", "z"), at=value)
                self.fails(InvalidNumber("at"), book_with, BOW, None, at=value)
                self.fails(InvalidNumber("at"), book_with, LINES, None, at=value if value != 3 else 11)

    def test_without_room(self):
        for each in SMALL + [K5, FANO, LINES]:
            for room in range(len(each.rooms)):
                if len(each.rooms) > 1:
                    wanted = Book(each.rooms[:room] + each.rooms[room + 1:])
                    self.gives(wanted, without_room, each, room)
        for each in (ONE, FIVE):
            self.fails(InvalidBook(-1), without_room, each, 0)
            self.fails(InvalidNumber("room"), without_room, each, 1)
        for value in odd_values() + [2, "0", (0,), 0.0]:
            self.fails(InvalidNumber("room"), without_room, BOW, value)
            self.fails(InvalidNumber("room"), without_room, ONE, value)


class SayingTests(Case):
    def test_example(self):
        old, new = read_book("a b c\nc d e"), read_book("c d e\na e f")
        self.gives(("d", "e"), rewritten, old, new, ("a", "b"))
        self.gives(None, rewritten, old, new, ("a",))

    def test_what_stays(self):
        for old, new in COUPLES:
            model = Model(old.rooms)
            wanted = {saying: stays(old, new, model, saying) for saying in model.sayings}
            for saying in model.sayings:
                self.assertEqual(rewritten(old, new, saying), wanted[saying])
            self.assertEqual(gone(old, new), tuple([saying for saying in model.sayings if wanted[saying] is None]))

    def test_in_every_way(self):
        self.gives((), rewritten, OLD, NEW, ())
        self.gives(("c", "d", "e"), rewritten, OLD, NEW, ("a", "b", "c"))
        self.gives(("c",), rewritten, OLD, NEW, ("c",))
        self.gives(("c", "d"), rewritten, OLD, NEW, ("c", "d"))
        self.gives((("a",), ("b",), ("a", "c"), ("b", "c")), gone, OLD, NEW)
        self.gives((), gone, BOW, BOW)
        self.gives((), gone, ONE, BOW)
        # All and none stay in any book.
        self.assertEqual(len(gone(ONE, book("x y z"))), 6)

    def test_wrong_sayings(self):
        for value in odd_values():
            if not isinstance(value, tuple):
                self.fails(InvalidSaying(-1), rewritten, OLD, NEW, value)
            self.fails(InvalidSaying(1), rewritten, OLD, NEW, ("a", value))
        self.fails(InvalidSaying(2), rewritten, OLD, NEW, ("d", "e"))
        self.fails(InvalidSaying(1), rewritten, OLD, NEW, ("a", "f"))

    def test_lost(self):
        many = 0
        for old, new in COUPLES:
            model, later = Model(old.rooms), Model(new.rooms)
            staying = {s: stays(old, new, model, s) for s in model.sayings}
            kept = [saying for saying in model.sayings if staying[saying] is not None]
            wanted = [(one, other) for one in kept for other in kept
                      if model.implies(one, other) and not later.implies(staying[one], staying[other])]
            self.assertEqual(lost(old, new), tuple(wanted))
            many += len(wanted) > 0
            if set(old.rooms) <= set(new.rooms):
                self.assertEqual(wanted, [])
                self.assertEqual(len(set(staying.values())), len(model.sayings))
        self.assertGreater(many, 5)

    def test_lost_in_every_way(self):
        self.gives((), lost, OLD, NEW)
        old, new = book("a b c\na d e\nb f g"), book("a d e\nb f g")
        self.gives(((("a",), ("a", "c")), (("b",), ("b", "c"))), lost, old, new)
        self.gives((), lost, old, Book(old.rooms[::-1]))
        self.gives((), lost, FANO, FANO)
        for one, other in [(TRIANGLE, Book(TRIANGLE.rooms[1:])), (K5, Book(K5.rooms[2:])), (LINES, Book(LINES.rooms[:7]))]:
            self.gives(lost(one, other), lost, one, other)
            self.assertNotEqual(lost(one, other), ())

    def test_opposites_stay_opposites(self):
        for old, new in COUPLES[::7]:
            model, later = Model(old.rooms), Model(new.rooms)
            for saying in model.sayings:
                found, turned = rewritten(old, new, saying), rewritten(old, new, model.opposite(saying))
                self.assertEqual(turned, None if found is None else later.opposite(found))

    def test_least_above_stays(self):
        for each in [BOW, TRIANGLE, SQUARE, TAILED]:
            new = Book((("xxa", "xxb", "xxc"),) + each.rooms[::-1] + ((each.outcomes()[0], "xx", "xy"),))
            model, later = Model(each.rooms), Model(new.rooms)
            for one in model.sayings[::2]:
                for other in model.sayings[::3]:
                    names = [rewritten(each, new, saying) for saying in (one, other)]
                    for saying in least(model, one, other):
                        if saying != model.all:
                            self.assertIn(rewritten(each, new, saying), least(later, *names))


def least(model, one, other):
    uppers = [s for s in model.sayings if model.implies(one, s) and model.implies(other, s)]
    return [s for s in uppers if [t for t in uppers if model.implies(t, s)] == [s]]


class RingTests(Case):
    def test_rings(self):
        for old, new in COUPLES[::3]:
            later = [ring for size in range(3, len(new.rooms) + 1) for ring in rings(new.rooms, size)] if len(new.rooms) < 8 else []
            for size in range(3, min(6, len(old.rooms)) + 1):
                for ring in rings(old.rooms, size):
                    found = ring_over(old, new, ring)
                    named = [(old.rooms[room], outcome) for room, outcome in ring]
                    if all([room in new.rooms for room, _ in named]):
                        self.assertIn(found, later)
                        self.assertEqual(sorted([(new.rooms[room], outcome) for room, outcome in found])[0][0], min(named)[0])
                        self.assertEqual(sorted([outcome for _, outcome in found]), sorted([outcome for _, outcome in ring]))
                    else:
                        self.assertIsNone(found)

    def test_all_sequences(self):
        for each in [TRIANGLE, SQUARE]:
            ring = rings(each.rooms, len(each.rooms))[0]
            for rooms in permutations(each.rooms):
                new = Book(rooms)
                self.assertEqual(ring_over(each, new, ring), rings(new.rooms, len(rooms))[0])

    def test_in_every_way(self):
        ring = ((0, "c"), (1, "e"), (2, "a"))
        self.gives(ring, ring_over, TRIANGLE, TRIANGLE, ring)
        self.gives(((0, "e"), (1, "c"), (2, "a")), ring_over, TRIANGLE, Book(TRIANGLE.rooms[::-1]), ring)
        self.gives(None, ring_over, TRIANGLE, BOW, ring)
        self.gives(None, ring_over, TRIANGLE, book("a b c\nc d e\na e z"), ring)

    def test_wrong_rings(self):
        for value in odd_values():
            if not isinstance(value, tuple):
                self.fails(InvalidRing(-1), ring_over, TRIANGLE, BOW, value)
            self.fails(InvalidRing(1), ring_over, TRIANGLE, BOW, ((0, "c"), value))
        ring = ((0, "c"), (1, "e"), (2, "a"))
        for value, at in [(ring[::-1], 1), (ring[1:] + ring[:1], 3), (ring[:2], 2), ((), 0)]:
            self.fails(InvalidRing(at), ring_over, TRIANGLE, TRIANGLE, value)
        for each in [HEXAGON, UNLIKE, PIECES, star(3), row_of(3), apart(3), LARGE[0]]:
            self.fails(InvalidRing(0), ring_over, each, each, ())


if __name__ == "__main__":
    unittest.main()
