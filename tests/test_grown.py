"""Growing from a room: point [62]; `grow` is tested in test_completed.py."""

import unittest

from common import Case, Thing, odd_values
from samples import (BOW, EIGHT, FANO, FIVE, GRID, HEXAGON, K5, LARGE, LINES, MIDDLE, ONE, PENTAGON, SMALL, SQUARE, TORN, TRIANGLE, TWO,
                     UNLIKE, apart, book, made_books, star)
from test_bounds import NEVER, NEVERS, SEVEN, sums_of, worth
from test_enough import K4, PETERSEN
from test_parted import EIGHTH, NINTH
from roomlooks.bounds import greatest_share
from roomlooks.errors import InvalidNumber, NoWeight
from roomlooks.grown import Growing, Stunted, check_room_growth, room_growth
from roomlooks.trees import extra_shares
from roomlooks.weights import check_some

BOOKS = SMALL + MIDDLE + [NEVER, NEVERS, SEVEN, EIGHTH, NINTH, K4, PETERSEN, LINES] + made_books(86, 25)
FULL, ZERO, HALF = (1, 1), (0, 1), (1, 2)


def is_growing(each, room, weights):
    if len(weights) != len(each.rooms[room]):
        return False
    for name, weight in zip(each.rooms[room], weights):
        if not (type(weight) is tuple and check_some(each, weight)) or weight[each.outcomes().index(name)] != FULL:
            return False
    return True


def is_stunted(each, room, value):
    """Whether a Stunted of the right kinds has what point [62] asks for."""
    if value.outcome not in each.rooms[room] or value.bottom < 1 or len(value.numbers) != len(each.rooms):
        return False
    sums = dict(zip(each.outcomes(), sums_of(each, value.numbers)))
    return sum(value.numbers) < value.bottom <= sums[value.outcome] and min(sums.values()) >= 0


class GrowthTests(Case):
    def test_classes(self):
        self.assertEqual(vars(Growing(1)), {"weights": 1})
        self.assertEqual(vars(Growing(weights=None)), {"weights": None})
        self.assertEqual(vars(Stunted(1, 2, 3)), {"outcome": 1, "numbers": 2, "bottom": 3})
        self.assertEqual(vars(Stunted(outcome=None, numbers=(), bottom="a")), {"outcome": None, "numbers": (), "bottom": "a"})

    def test_one_of_both(self):
        kinds = []
        for each in BOOKS + LARGE:
            for room in range(len(each.rooms)):
                found = room_growth(each, room)
                kinds.append(type(found))
                if isinstance(found, Growing):
                    self.assertTrue(is_growing(each, room, found.weights))
                else:
                    self.assertTrue(is_stunted(each, room, found))
                self.assertIs(check_room_growth(each, room, found), True)
        self.assertGreater(kinds.count(Growing), 100)
        self.assertGreater(kinds.count(Stunted), 30)

    def test_by_greatest_shares(self):
        for each in BOOKS:
            for room, outcomes in enumerate(each.rooms):
                try:
                    fits = all([worth(greatest_share(each, (name,)).value) == 1 for name in outcomes])
                except NoWeight:
                    fits = False
                self.assertEqual(isinstance(room_growth(each, room), Growing), fits)

    def test_books_in_which_all_grow(self):
        own = book("a b c x\na d e y\nb d f z\nc e f w")
        for each in BOOKS + [own]:
            alone = all([any([len(each.rooms_of(name)) == 1 for name in room]) for room in each.rooms])
            if alone or extra_shares(each) == 0:
                for room in range(len(each.rooms)):
                    self.assertIsInstance(room_growth(each, room), Growing)

    def test_in_every_way(self):
        corners = ((FULL, ZERO, ZERO), (ZERO, FULL, ZERO), (ZERO, ZERO, FULL))
        self.gives(Growing(corners), room_growth, ONE, 0)
        for each in [ONE, BOW, TRIANGLE, SEVEN, NEVER, FANO, K4, GRID, TORN, UNLIKE, EIGHT, HEXAGON]:
            for room in (0, len(each.rooms) - 1):
                self.gives(room_growth(each, room), room_growth, each, room)
                self.gives(True, check_room_growth, each, room, room_growth(each, room))
        self.assertIsInstance(room_growth(FANO, 0), Stunted)
        for room in range(8):
            for outcome in EIGHTH.rooms[room]:
                numbers = tuple([1 + 5 * step for step in (1, 1, 1, -1, -1, -1, -1)] + [1])
                value = Stunted(outcome, numbers, 4)
                self.gives(is_stunted(EIGHTH, room, value), check_room_growth, EIGHTH, room, value)
        self.assertIsInstance(room_growth(SEVEN, 0), Stunted)
        self.assertEqual(room_growth(NEVER, 0).outcome, "x")
        self.gives(True, check_room_growth, NEVER, 0, Stunted("x", (1, 1, 1, -1, -1, -1), 3))
        self.gives(True, check_room_growth, NEVER, 0, Stunted("x", (1, 1, 1, -1, -1, -1), 1))
        self.gives(False, check_room_growth, NEVER, 3, Stunted("x", (1, 1, 1, -1, -1, -1), 3))

    def test_wrong_rooms(self):
        for value in odd_values() + [2, -1, "0", (0,), 0.0]:
            for each in (BOW, SEVEN):
                if value != 2 or each is BOW:
                    self.fails(InvalidNumber("room"), room_growth, each, value)
                    self.fails(InvalidNumber("room"), check_room_growth, each, value, None)
        self.fails(InvalidNumber("room"), room_growth, SEVEN, 7)


class CheckTests(Case):
    def test_spoilt_weights(self):
        for each in [ONE, BOW, TRIANGLE, SQUARE]:
            for room in range(len(each.rooms)):
                good = room_growth(each, room).weights
                for at, weight in enumerate(good):
                    for other in [weight[1:], list(weight), None, weight + (ZERO,), good[at - 1], weight[::-1], ((2, 2),) + weight[1:],
                                  tuple([HALF if part == FULL else part for part in weight])]:
                        value = good[:at] + (other,) + good[at + 1:]
                        self.gives(is_growing(each, room, value), check_room_growth, each, room, Growing(value))
                for value in [good[1:], good + good[:1], list(good), None, (), good[::-1], good[0]]:
                    self.gives(False, check_room_growth, each, room, Growing(value))

    def test_spoilt_numbers(self):
        for each, room in [(FANO, 0), (SEVEN, 3), (NEVER, 0), (K4, 1), (PETERSEN, 5)]:
            good = room_growth(each, room)
            if isinstance(good, Growing):
                continue
            for at in range(len(each.rooms)):
                for step in (-1, 1, 7):
                    value = Stunted(good.outcome, good.numbers[:at] + (good.numbers[at] + step,) + good.numbers[at + 1:], good.bottom)
                    self.gives(is_stunted(each, room, value), check_room_growth, each, room, value)
            for outcome in each.outcomes():
                value = Stunted(outcome, good.numbers, good.bottom)
                self.gives(is_stunted(each, room, value), check_room_growth, each, room, value)
            for step in (-1, 1):
                value = Stunted(good.outcome, good.numbers, good.bottom + step)
                self.gives(is_stunted(each, room, value), check_room_growth, each, room, value)
            for numbers in [good.numbers[1:], good.numbers + (0,), list(good.numbers), None, ()]:
                self.gives(False, check_room_growth, each, room, Stunted(good.outcome, numbers, good.bottom))
            for bottom in [0, -1, None, True, 1.0, "1", 10 ** 30]:
                self.gives(False, check_room_growth, each, room, Stunted(good.outcome, good.numbers, bottom))
            for outcome in ["z1", None, 0, (good.outcome,), [good.outcome], True]:
                self.gives(False, check_room_growth, each, room, Stunted(outcome, good.numbers, good.bottom))
            double = Stunted(good.outcome, tuple([10 ** 20 * n for n in good.numbers]), 10 ** 20 * good.bottom)
            self.gives(True, check_room_growth, each, room, double)

    def test_any_value(self):
        good, bad = room_growth(BOW, 0), room_growth(FANO, 0)
        for value in odd_values() + [Thing(**vars(good)), Thing(**vars(bad)), good.weights]:
            self.gives(False, check_room_growth, BOW, 0, value)
            self.gives(False, check_room_growth, FANO, 0, value)
            self.gives(False, check_room_growth, BOW, 0, Growing(value if value != good.weights else None))
            self.gives(False, check_room_growth, BOW, 0, Growing((value,) + good.weights[1:]))
            for name in vars(bad):
                self.gives(False, check_room_growth, FANO, 0, Stunted(**{**vars(bad), name: value}))

    def test_other_books(self):
        for each in [FIVE, TWO, PENTAGON, TORN, K5, apart(4, 5), star(10)]:
            for room in range(len(each.rooms)):
                self.assertTrue(check_room_growth(each, room, room_growth(each, room)))


if __name__ == "__main__":
    unittest.main()
