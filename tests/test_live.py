"""Books that change: points [98], [99] and, for `Live`, [4]."""

import random
import unittest

from common import Case, odd_values, plain
from oracle import Model, short_rings_of
from samples import BOW, EIGHT, FANO, K5, LINES, ONE, PIECES, SQUARE, TORN, TRIANGLE, TWO, book, made_books, star
from roomlooks.books import Book
from roomlooks.errors import InvalidBook, InvalidLook, InvalidNumber, Refused, RoomError
from roomlooks.live import Live
from roomlooks.texts import read_book
from roomlooks.verdicts import House, court

METHODS = ["present", "looks", "changes", "short_rings", "sure", "next_outcomes", "verdict", "mending"]


def shown(live):
    """All that a Live tells of itself."""
    return [plain(getattr(live, name)()) for name in METHODS]


class Told:
    """What a Live is, by the words: rooms, looks with their rooms, and what was before."""

    def __init__(self, each):
        self.rooms, self.done, self.past = list(each.rooms), [], []

    def model(self):
        return Model(tuple(self.rooms))

    def apart(self, rooms, p, q):
        return p == q or not any([p in room and q in room for room in rooms])

    def is_run(self, rooms, done):
        if not all([room in rooms for room, _ in done]):
            return False
        return all([self.apart(rooms, p, q) for (_, p), (_, q) in zip(done, done[1:])])

    def keep(self):
        self.past.append((list(self.rooms), list(self.done)))

    def undo(self):
        self.rooms, self.done = self.past.pop()

    def shown(self):
        rooms, names = tuple(self.rooms), sorted(set([name for room in self.rooms for name in room]))
        rings, last = short_rings_of(rooms), self.done[-1][1] if self.done else None
        model = self.model()
        sure = [s for s in model.sayings if (s == model.all if last is None else model.implies((last,), s))]
        free = [name for name in names if last is None or self.apart(rooms, last, name)]
        mending = [k for k in range(len(rooms)) if all([k in [room for room, _ in ring] for ring in rings])]
        told = [Book(rooms), tuple([(self.rooms.index(room), name) for room, name in self.done]), len(self.past), rings, tuple(sure),
                tuple(free), court(Book(rooms)), tuple(mending)]
        return [plain(value) for value in told]


def through(rooms, number):
    return tuple([ring for ring in short_rings_of(tuple(rooms)) if number in [room for room, _ in ring]])


class LiveCase(Case):
    def raises(self, error, live, function, *args, **kwargs):
        """A call that raises an error changes nothing."""
        before = shown(live)
        with self.assertRaises(RoomError) as caught:
            function(*args, **kwargs)
        self.assertEqual(plain([type(caught.exception).__name__, vars(caught.exception)]), plain([type(error).__name__, vars(error)]))
        self.assertEqual(shown(live), before)


class LiveTests(LiveCase):
    def test_example(self):
        live = Live(read_book("a b c\nc d e"))
        self.assertIsNone(live.look(0, "a"))
        self.assertEqual((live.put_room(("a", "e", "f")), live.mending(), live.next_outcomes()),
                         ((((0, "c"), (1, "e"), (2, "a")),), (0, 1, 2), ("a", "d")))

    def test_methods_alone(self):
        live = Live(book=BOW)
        self.assertEqual([name for name in vars(live) if not name.startswith("_")], [])
        wanted = METHODS + ["put_room", "take_room", "look", "undo"]
        self.assertEqual(sorted([name for name in vars(Live) if not name.startswith("_")]), sorted(wanted))

    def test_at_first(self):
        for each in [ONE, BOW, TRIANGLE, SQUARE, FANO, PIECES, LINES, K5, EIGHT]:
            live = Live(each)
            self.assertEqual(shown(live), Told(each).shown())
            self.assertEqual((live.present(), live.looks(), live.changes()), (each, (), 0))
            self.assertEqual(live.sure(), (each.rooms[0],))
            self.assertEqual(live.next_outcomes(), each.outcomes())
            self.raises(Refused("undo"), live, live.undo)

    def test_made_rows_of_calls(self):
        chance, done = random.Random(1), {"put": 0, "take": 0, "look": 0, "undo": 0, "raised": 0}
        for each in [ONE, BOW, TRIANGLE, TWO, SQUARE, PIECES, TORN] + made_books(71, 16, 5):
            live, told = Live(each), Told(each)
            for _ in range(25):
                word = chance.choice(["put", "put", "take", "look", "look", "look", "undo"])
                before = shown(live)
                if self.done(word, live, told, chance):
                    done[word] += 1
                else:
                    done["raised"] += 1
                    self.assertEqual(shown(live), before)
                self.assertEqual(shown(live), told.shown())
        self.assertGreater(min(done.values()), 25)

    def done(self, word, live, told, chance):
        """Do one thing with both; whether it raised no error."""
        return {"put": self.put, "take": self.take, "look": self.look, "undo": self.undo}[word](live, told, chance)

    def put(self, live, told, chance):
        names = sorted(set([name for room in told.rooms for name in room])) + ["u%s" % sign for sign in "abcdef"]
        room, at = tuple(sorted(chance.sample(names, 3))), chance.choice([None, 0, 1, len(told.rooms), len(told.rooms) + 1])
        place = len(told.rooms) if at is None else at
        rooms = told.rooms[:place] + [room] + told.rooms[place:]
        if at is not None and at > len(told.rooms):
            self.raises(InvalidNumber("at"), live, live.put_room, room, at=at)
            return False
        try:
            Book(tuple(rooms))
        except InvalidBook as error:
            self.raises(error, live, live.put_room, room, at=at)
            return False
        if not told.is_run(rooms, told.done):
            self.raises(Refused("looks"), live, live.put_room, room, at=at)
            return False
        self.assertEqual(plain(live.put_room(room, at=at)), plain(through(rooms, place)))
        told.keep()
        told.rooms = rooms
        return True

    def take(self, live, told, chance):
        number = chance.randint(0, len(told.rooms))
        if number == len(told.rooms):
            self.raises(InvalidNumber("room"), live, live.take_room, number)
            return False
        rooms = told.rooms[:number] + told.rooms[number + 1:]
        if not rooms or not told.is_run(rooms, told.done):
            self.raises(Refused("looks") if rooms else InvalidBook(-1), live, live.take_room, number)
            return False
        self.assertEqual(plain(live.take_room(number)), plain(through(told.rooms, number)))
        told.keep()
        told.rooms = rooms
        return True

    def look(self, live, told, chance):
        number = chance.randint(0, len(told.rooms) - 1)
        outcome = chance.choice(told.rooms[number] if chance.random() < 0.9 else told.rooms[0])
        fits = outcome in told.rooms[number]
        if not fits or not told.is_run(told.rooms, told.done + [(told.rooms[number], outcome)]):
            self.raises(InvalidLook(len(told.done)), live, live.look, number, outcome)
            return False
        self.assertIsNone(live.look(number, outcome))
        told.keep()
        told.done = told.done + [(told.rooms[number], outcome)]
        return True

    def undo(self, live, told, chance):
        if not told.past:
            self.raises(Refused("undo"), live, live.undo)
            return False
        self.assertIsNone(live.undo())
        told.undo()
        return True


class ChangeTests(LiveCase):
    def test_rooms_at_each_place(self):
        for at in range(4):
            live = Live(TRIANGLE)
            live.look(1, "d")
            live.look(2, "f")
            self.assertEqual(live.put_room(("b", "d", "x"), at=at), through(live.present().rooms, at))
            self.assertEqual(live.present().rooms, TRIANGLE.rooms[:at] + (("b", "d", "x"),) + TRIANGLE.rooms[at:])
            self.assertEqual(live.looks(), ((1 + (at < 2), "d"), (2 + (at < 3), "f")))
            self.assertEqual(len(through(live.present().rooms, at)) > 0, True)
            self.assertEqual(live.take_room(at), through(TRIANGLE.rooms[:at] + (("b", "d", "x"),) + TRIANGLE.rooms[at:], at))
            self.assertEqual((live.present(), live.looks()), (TRIANGLE, ((1, "d"), (2, "f"))))
            self.assertEqual(live.changes(), 4)

    def test_by_position_and_by_name(self):
        one, other = Live(BOW), Live(book=BOW)
        for live, calls in [(one, [one.put_room(("a", "e", "f"), at=0), one.look(1, "b"), one.take_room(0)]),
                            (other, [other.put_room(room=("a", "e", "f"), at=0), other.look(room=1, outcome="b"), other.take_room(room=0)])]:
            self.assertEqual(calls[1], None)
            self.assertEqual(shown(live), shown(one))
        live = Live(BOW)
        live.put_room(("x", "y", "z"))
        live.put_room(("u", "v", "w"), at=None)
        self.assertEqual(live.present(), book("a b c\nc d e\nx y z\nu v w"))
        with self.assertRaises(TypeError):
            live.put_room(("k", "l", "m"), 0)

    def test_looks_in_a_room_that_is_taken_out(self):
        live = Live(BOW)
        live.look(0, "c")
        self.raises(Refused("looks"), live, live.take_room, 0)
        # The other room has the outcome, too, but the look was not done there.
        self.assertEqual(live.take_room(1), ())
        self.assertEqual(live.looks(), ((0, "c"),))
        # The only room: this error comes before that of the looks.
        self.raises(InvalidBook(-1), live, live.take_room, 0)
        live.undo()
        live.undo()
        self.assertEqual(live.take_room(0), ())
        self.assertEqual((live.present().rooms, live.looks(), live.changes()), ((("c", "d", "e"),), (), 1))

    def test_outcomes_that_a_new_room_excludes(self):
        live = Live(TWO)
        live.look(0, "a")
        live.look(1, "d")
        live.look(0, "b")
        self.raises(Refused("looks"), live, live.put_room, ("a", "d", "x"))
        self.raises(Refused("looks"), live, live.put_room, ("b", "d", "x"), at=0)
        # These two did not follow one another.
        self.assertEqual(live.put_room(("a", "e", "x")), ())
        self.raises(InvalidBook(3), live, live.put_room, ("a", "b", "y"))
        self.raises(InvalidNumber("at"), live, live.put_room, ("a", "d", "x"), at=4)
        # The same outcome again is no unlike one.
        live.look(2, "e")
        live.look(1, "e")
        self.assertEqual(live.put_room(("e", "y", "z")), ())
        # A look in the new room rests on it.
        live.look(3, "e")
        self.raises(Refused("looks"), live, live.take_room, 3)
        live.undo()
        live.take_room(3)

    def test_long_runs(self):
        live = Live(ONE)
        for many in range(75):
            self.assertIsNone(live.look(0, "b"))
        self.assertEqual(live.looks(), ((0, "b"),) * 75)
        self.raises(InvalidLook(75), live, live.look, 0, "a")
        self.assertEqual(live.changes(), 75)

    def test_undo_in_turn(self):
        live, seen = Live(BOW), []
        calls = [lambda: live.look(0, "a"), lambda: live.put_room(("a", "e", "f"), at=0), lambda: live.look(2, "d"),
                 lambda: live.put_room(("x", "y", "z"), at=1), lambda: live.look(1, "y"),
                 lambda: live.take_room(0)]
        for call in calls:
            seen.append(shown(live))
            call()
        for before in seen[::-1]:
            live.undo()
            self.assertEqual(shown(live), before)
        self.raises(Refused("undo"), live, live.undo)
        # After taking back, other things can be done; they can be taken back, too.
        live.look(1, "e")
        self.assertEqual(live.changes(), 1)
        live.undo()
        self.assertEqual(shown(live), shown(Live(BOW)))

    def test_what_was_returned_stays(self):
        live = Live(TRIANGLE)
        kept = [live.present(), live.looks(), live.short_rings(), live.sure(), live.next_outcomes(), live.verdict(), live.mending()]
        before = plain(kept)
        rings = live.take_room(1)
        live.look(0, "b")
        live.put_room(("b", "x", "y"), at=0)
        self.assertEqual(plain(kept), before)
        self.assertEqual(rings, (((0, "c"), (1, "e"), (2, "a")),))
        self.assertEqual(TRIANGLE, book("a b c\nc d e\na e f"))
        # Two that were made of one book do not know of each other.
        one, other = Live(BOW), Live(BOW)
        one.look(0, "a")
        one.put_room(("x", "y", "z"))
        self.assertEqual(shown(other), shown(Live(BOW)))

    def test_verdict_and_mending(self):
        live = Live(BOW)
        self.assertIsInstance(live.verdict(), House)
        self.assertEqual(live.mending(), (0, 1))
        live.put_room(("a", "e", "f"))
        self.assertEqual(plain(live.verdict()), plain(court(live.present())))
        live.put_room(("b", "d", "f"))
        self.assertEqual(live.mending(), ())
        for each in [TRIANGLE, SQUARE, TORN, book("a b c\nc d e\na e f\nb g h\nh i d"), star(4)]:
            made = Live(each)
            for room in range(len(each.rooms)):
                rest = Live(each)
                rest.take_room(room)
                self.assertEqual(room in made.mending(), isinstance(rest.verdict(), House))

    def test_any_values(self):
        live = Live(BOW)
        live.look(0, "a")
        for value in odd_values() + [("a", "b"), ("c", "a", "b"), ["x", "y", "z"], ("x", "y", "Z")]:
            self.raises(InvalidBook(2), live, live.put_room, value)
            self.raises(InvalidBook(0), live, live.put_room, value, at=0)
            if value is not None:
                self.raises(InvalidNumber("at"), live, live.put_room, None, at=value)
            self.raises(InvalidNumber("room"), live, live.take_room, value)
            self.raises(InvalidLook(1), live, live.look, value, "a")
            self.raises(InvalidLook(1), live, live.look, 0, value)
            self.raises(InvalidLook(1), live, live.look, value, value)
        for room, outcome in [(1, "a"), (0, "b"), (0, "c"), (1, "c"), (2, "d"), (0, "d")]:
            self.raises(InvalidLook(1), live, live.look, room, outcome)
        live.look(1, "d")
        wide = Live(star(10))
        self.raises(InvalidBook(-1), wide, wide.put_room, ("x", "y", "z"))
        full = Live(EIGHT)
        self.raises(InvalidBook(9), full, full.put_room, ("xx", "yy", "zz"))

    def test_equal_calls(self):
        live = Live(TRIANGLE)
        live.look(0, "b")
        self.assertEqual(shown(live), shown(live))


if __name__ == "__main__":
    unittest.main()
