"""Zigzags: the opening of chapter 15 and points [91] to [93]."""

import unittest
from itertools import product

from common import Case, odd_values
from oracle import Model
from samples import (BOW, EIGHT, FIVE, FIVES, HEXAGON, LARGE, MIDDLE, ONE, PENTAGON, PIECES, SMALL, TRIANGLE, TWO, book,
                     made_books, ring_of, row_of, star)
from roomlooks.errors import InvalidNumber, InvalidSaying, Refused
from roomlooks.sayings import all_sayings, forms, opposite, together, implies
from roomlooks.zigzags import (count_zigzags, farthest_from, farthest_pair, is_zigzag, outcome_row, rooms_between,
                               shortest_zigzag, zigzag_length, zigzag_lengths)
from test_sayings import wrong_sayings

EXAMPLE = book("a b c\nc d e\ne f g")
BOOKS = SMALL + MIDDLE[:4] + made_books(17, 8, 5)


class Zigzags:
    """All about the zigzags of a book, by the words of point [91]."""

    def __init__(self, rooms):
        self.model = Model(rooms)
        self.proper = [s for s in self.model.sayings if s not in ((), self.model.all)]
        self.near = {s: [t for t in self.proper if s != t and (self.model.implies(s, t) or self.model.implies(t, s))]
                     for s in self.proper}
        self.steps = {s: self.steps_from(s) for s in self.proper}

    def steps_from(self, saying):
        found, front = {saying: 0}, [saying]
        while front:
            item = front.pop(0)
            for other in self.near[item]:
                if other not in found:
                    found[other] = found[item] + 1
                    front.append(other)
        return found

    def shortest(self, one, other):
        """All shortest zigzags, in the order of their sayings."""
        if other not in self.steps[one]:
            return []
        rows = [(one,)]
        for left in range(self.steps[one][other] - 1, -1, -1):
            rows = [row + (t,) for row in rows for t in self.near[row[-1]] if self.steps[other].get(t) == left]
        return rows


class ZigzagTests(Case):
    def test_lengths_counts_and_first(self):
        for each in BOOKS:
            model = Zigzags(each.rooms)
            step = 1 + len(model.proper) // 9
            for one in model.proper[::step]:
                for other in model.proper[::step]:
                    rows = model.shortest(one, other)
                    self.assertEqual(zigzag_length(each, one, other), len(rows[0]) - 1 if rows else None)
                    self.assertEqual(count_zigzags(each, one, other), len(rows))
                    self.assertEqual(shortest_zigzag(each, one, other), rows[0] if rows else None)
                lengths = zigzag_lengths(each, one)
                self.assertEqual(list(lengths), model.proper)
                self.assertEqual(lengths, {s: model.steps[one].get(s) for s in model.proper})

    def test_farthest(self):
        for each in BOOKS:
            model = Zigzags(each.rooms)
            best = max([max(model.steps[s].values()) for s in model.proper])
            pairs = [(s, t) for s in model.proper for t in model.proper if model.steps[s].get(t) == best]
            self.assertEqual(farthest_pair(each), (best,) + pairs[0])
            for one in model.proper:
                greatest = max(model.steps[one].values())
                far = tuple([s for s in model.proper if model.steps[one].get(s) == greatest])
                self.assertEqual(farthest_from(each, one), (greatest, far))

    def test_example(self):
        self.gives(4, zigzag_length, EXAMPLE, ("a",), ("f",))
        self.gives((("a",), ("a", "b"), ("d",), ("c", "d"), ("f",)), shortest_zigzag, EXAMPLE, ("a",), ("f",))
        self.assertEqual(farthest_pair(EXAMPLE)[0], 4)

    def test_in_every_way(self):
        model = Zigzags(EXAMPLE.rooms)
        for one, other in [(("a",), ("f",)), (("a",), ("a",)), (("a",), ("b", "c")), (("c",), ("a", "b"))]:
            rows = model.shortest(one, other)
            self.gives(len(rows[0]) - 1, zigzag_length, EXAMPLE, one, other)
            self.gives(len(rows), count_zigzags, EXAMPLE, one, other)
            self.gives(rows[0], shortest_zigzag, EXAMPLE, one, other)
            self.gives(zigzag_lengths(EXAMPLE, one), zigzag_lengths, EXAMPLE, one)
            self.gives(farthest_from(EXAMPLE, one), farthest_from, EXAMPLE, one)
        self.unchanged_by_changes(zigzag_lengths, EXAMPLE, ("a",))
        for each in [ONE, TWO, EXAMPLE]:
            self.gives(farthest_pair(each), farthest_pair, each)
        self.gives(None, zigzag_length, TWO, ("a",), ("d",))
        self.gives(0, count_zigzags, TWO, ("a",), ("d",))
        self.gives(None, shortest_zigzag, TWO, ("a",), ("d",))
        self.assertIsNone(zigzag_lengths(TWO, ("a",))[("d", "e")])
        self.gives(1, count_zigzags, TWO, ("a",), ("a",))
        self.gives((("a",),), shortest_zigzag, TWO, ("a",), ("a",))
        self.gives((3, ("a",), ("b", "c")), farthest_pair, ONE)
        self.gives((3, (("b", "c", "d", "e"),)), farthest_from, FIVE, ("a",))

    def test_standing_together(self):
        for each in [ONE, FIVE, BOW, TRIANGLE, PENTAGON]:
            proper = [s for s in all_sayings(each) if s not in ((), each.rooms[0])]
            for one in proper:
                lengths = zigzag_lengths(each, one)
                for other in proper:
                    if together(each, one, other):
                        near = implies(each, one, other) or implies(each, other, one)
                        wanted = 0 if one == other else 1 if near else 3 if opposite(each, one) == other else 2
                        self.assertEqual(lengths[other], wanted)

    def test_wrong_sayings(self):
        for value, at in wrong_sayings(BOW):
            for function in [zigzag_length, count_zigzags, shortest_zigzag]:
                self.fails(InvalidSaying(at), function, BOW, value, ("a",))
                self.fails(InvalidSaying(at), function, BOW, value, ("b", "a"))
                self.fails(InvalidSaying(at), function, BOW, (), value)
                self.fails(InvalidSaying(at), function, BOW, ("a", "b", "c"), value)
                self.fails(InvalidSaying(1), function, BOW, ("b", "a"), value)
            for function in [zigzag_lengths, farthest_from]:
                self.fails(InvalidSaying(at), function, BOW, value)

    def test_sayings_that_are_not_proper(self):
        for value in [(), ("a", "b", "c")]:
            for function in [zigzag_length, count_zigzags, shortest_zigzag]:
                self.fails(Refused("proper"), function, BOW, value, ("a",))
                self.fails(Refused("proper"), function, BOW, ("a",), value)
                self.fails(Refused("proper"), function, BOW, value, value)
            self.fails(Refused("proper"), zigzag_lengths, BOW, value)
            self.fails(Refused("proper"), farthest_from, BOW, value)


class IsZigzagTests(Case):
    def test_all_rows(self):
        for each in [ONE, BOW]:
            model = Zigzags(each.rooms)
            for size in range(1, 4):
                for row in product(model.model.sayings, repeat=size):
                    good = all([saying in model.near for saying in row])
                    good = good and all([row[k + 1] in model.near[row[k]] for k in range(size - 1)])
                    self.assertIs(is_zigzag(each, row), good)

    def test_found_and_spoilt(self):
        for each in [EXAMPLE, TRIANGLE, PENTAGON]:
            proper = [s for s in all_sayings(each) if s not in ((), each.rooms[0])]
            for one in proper[::4]:
                for other in proper[::5]:
                    row = shortest_zigzag(each, one, other)
                    self.gives(True, is_zigzag, each, row)
                    for at in range(len(row)):
                        self.assertFalse(is_zigzag(each, row[:at] + ((),) + row[at + 1:]))
                        self.assertFalse(is_zigzag(each, row[:at + 1] + row[at:]))
                        self.assertFalse(is_zigzag(each, row[:at] + (None,) + row[at + 1:]))

    def test_any_value(self):
        self.gives(True, is_zigzag, BOW, (("a",),))
        self.gives(True, is_zigzag, BOW, (("a",), ("a", "b"), ("d",), ("a", "b"), ("a",)))
        self.gives(False, is_zigzag, BOW, ())
        self.gives(False, is_zigzag, BOW, ((),))
        self.gives(False, is_zigzag, BOW, (("a", "b", "c"),))
        self.gives(False, is_zigzag, BOW, [("a",)])
        self.gives(False, is_zigzag, BOW, (["a"],))
        self.gives(False, is_zigzag, BOW, (("d",), ("d", "e")))
        self.gives(False, is_zigzag, BOW, (("a",), ("a",)))
        self.gives(False, is_zigzag, BOW, (("a",), ("b",)))
        for value in odd_values():
            self.gives(False, is_zigzag, BOW, (value,))
            self.gives(False, is_zigzag, BOW, (("a",), value))
            self.gives(False, is_zigzag, BOW, (("a",), ("a", value)))
            if value != (("a",),):
                self.gives(False, is_zigzag, BOW, value)


class RowTests(Case):
    def all_rows(self, each, room, other):
        """All shortest rows from a room to another one, ascending, None if there is none."""
        if room == other:
            return [()]
        rows = [(name,) for name in each.rooms[room]]
        for _ in each.outcomes():
            found = [row for row in rows if row[-1] in each.rooms[other]]
            if found:
                return sorted(found)
            rows = [row + (name,) for row in rows for name in each.outcomes()
                    if name not in row and each.room_of_two(row[-1], name) is not None]
        return None

    def test_rows(self):
        for each in BOOKS + [ring_of(7), row_of(5)]:
            for room in range(len(each.rooms)):
                for other in range(len(each.rooms)):
                    rows = self.all_rows(each, room, other) if self.reached(each, room, other) else None
                    self.assertEqual(outcome_row(each, room, other), rows[0] if rows else None)
                    self.assertEqual(rooms_between(each, room, other), len(rows[0]) if rows else None)

    def reached(self, each, room, other):
        names = set(each.rooms[room])
        for _ in each.rooms:
            names = names.union(*[own for own in each.rooms if names & set(own)])
        return bool(names & set(each.rooms[other]))

    def test_in_every_way(self):
        self.gives(0, rooms_between, EXAMPLE, 1, 1)
        self.gives((), outcome_row, EXAMPLE, 1, 1)
        self.gives(1, rooms_between, EXAMPLE, 0, 1)
        self.gives(("c",), outcome_row, EXAMPLE, 0, 1)
        self.gives(2, rooms_between, EXAMPLE, 2, 0)
        self.gives(("e", "c"), outcome_row, EXAMPLE, 2, 0)
        self.gives(None, rooms_between, PIECES, 0, 1)
        self.gives(None, outcome_row, PIECES, 0, 1)
        self.gives(9, rooms_between, row_of(10), 0, 9)
        self.gives(5, rooms_between, ring_of(10), 0, 5)
        self.gives(1, rooms_between, star(10), 3, 9)
        self.gives(None, rooms_between, EIGHT, 0, 7)

    def test_lengths_by_rows(self):
        for each in [EXAMPLE, PENTAGON, HEXAGON, row_of(5), TRIANGLE]:
            own = [s for s in all_sayings(each) if len(forms(each, s)) == 1]
            for one in own:
                lengths = zigzag_lengths(each, one)
                for other in own:
                    first, second = forms(each, one)[0][0], forms(each, other)[0][0]
                    if first != second:
                        self.check_length(each, one, other, lengths[other], first, second)

    def check_length(self, each, one, other, length, first, second):
        rows = self.all_rows(each, first, second)
        many = len(rows[0])
        fitting = [row for row in rows if ((row[0] in one) == (row[-1] in other)) == (many % 2 == 1)]
        self.assertEqual(length, many + 1 if fitting else many + 2)

    def test_how_far(self):
        for each in [ONE, EXAMPLE, PENTAGON, row_of(5)] + made_books(18, 5, 5):
            rooms = range(len(each.rooms))
            far = max([rooms_between(each, a, b) or 0 for a in rooms for b in rooms])
            self.assertLessEqual(farthest_pair(each)[0], far + 2 if far else 3)

    def test_wrong_rooms(self):
        for function in [rooms_between, outcome_row]:
            for value in odd_values() + [3, "0", (0,)]:
                self.fails(InvalidNumber("room"), function, EXAMPLE, value, 0)
                self.fails(InvalidNumber("room"), function, EXAMPLE, value, value)
                self.fails(InvalidNumber("other"), function, EXAMPLE, 2, value)

    def test_large_books(self):
        self.assertEqual(farthest_pair(row_of(10))[0], 11)
        for each in LARGE[:3] + [FIVES]:
            greatest, one, other = farthest_pair(each)
            row = shortest_zigzag(each, one, other)
            self.assertEqual(len(row) - 1, greatest)
            self.assertTrue(is_zigzag(each, row))


if __name__ == "__main__":
    unittest.main()
