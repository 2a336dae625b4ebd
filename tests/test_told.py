"""Orders told by numbers and told back: points [39] and [40]."""

import random
import unittest

from common import Case, Thing, odd_values
from oracle import Model, rings
from samples import (BOW, EIGHT, FANO, FIVE, FIVES, GRID, HEXAGON, K5, LINES, MIDDLE, ONE, PENTAGON, SMALL, SQUARE, TAILED, TORN,
                     TRIANGLE, TWO, UNLIKE, apart, book, made_books, made_houses, ring_of, row_of, star)
from roomlooks.alike import alike
from roomlooks.books import Book
from roomlooks.errors import InvalidNumber, Refused
from roomlooks.told import Order, order_of, told_back

BOOKS = SMALL + MIDDLE + made_books(66, 20, 6) + made_houses(67, 6, 6)
LARGE = [row_of(10), ring_of(10), star(10), EIGHT, apart(6, 4), apart(4, 5)]


def shuffled(many, chance):
    numbers = list(range(many))
    chance.shuffle(numbers)
    return tuple(numbers)


def by_the_words(model, numbers):
    """The ups and opposites when each saying, in order, has its number."""
    number_of = dict(zip(model.sayings, numbers))
    ups, opposites = [None] * len(numbers), [None] * len(numbers)
    for saying in model.sayings:
        ups[number_of[saying]] = tuple(sorted([number_of[other] for other in model.up(saying)]))
        opposites[number_of[saying]] = number_of[model.opposite(saying)]
    return (tuple(ups), tuple(opposites))


def identity(each):
    return tuple(range(len(Model(each.rooms).sayings)))


class OrderTests(Case):
    def test_classes(self):
        self.assertEqual(vars(Order(1, 2)), {"ups": 1, "opposites": 2})
        self.assertEqual(vars(Order(ups=None, opposites=())), {"ups": None, "opposites": ()})

    def test_orders(self):
        chance = random.Random(1)
        for each in BOOKS:
            model = Model(each.rooms)
            for numbers in [identity(each), shuffled(len(model.sayings), chance)]:
                found = order_of(each, numbers)
                self.assertEqual((found.ups, found.opposites), by_the_words(model, numbers))

    def test_in_every_way(self):
        ups = ((0, 1, 2, 3, 4, 5, 6, 7), (1, 4, 5, 7), (2, 4, 6, 7), (3, 5, 6, 7), (4, 7), (5, 7), (6, 7), (7,))
        self.gives(Order(ups, (7, 6, 5, 4, 3, 2, 1, 0)), order_of, ONE, (0, 1, 2, 3, 4, 5, 6, 7))
        for each in [BOW, TRIANGLE, GRID, LINES, FIVES]:
            numbers = shuffled(len(identity(each)), random.Random(2))
            self.gives(order_of(each, numbers), order_of, each, numbers)

    def test_wrong_numbers(self):
        good = identity(ONE)
        for value in odd_values() + [good[:-1], good + (8,), list(good), good[:-1] + (8,), good[:-1] + (0,), (False,) + good[1:],
                                     (0, True) + good[2:], (0.0,) + good[1:], ("0",) + good[1:], (-1,) + good[1:], good + good]:
            self.fails(InvalidNumber("numbers"), order_of, ONE, value)
            self.fails(InvalidNumber("numbers"), order_of, ONE, good[:-1] + (value,))


class BackTests(Case):
    def has_order(self, order, found):
        """Whether a book and its sayings have an order, by the words."""
        each, sayings = found
        model = Model(each.rooms)
        self.assertEqual(sorted(sayings), sorted(model.sayings))
        numbers = tuple([sayings.index(saying) for saying in model.sayings])
        self.assertEqual(by_the_words(model, numbers), (order.ups, order.opposites))

    def test_told_back(self):
        chance, refused = random.Random(3), 0
        for each in BOOKS + LARGE:
            numbers = shuffled(len(Model(each.rooms).sayings), chance)
            order = order_of(each, numbers)
            if rings(each.rooms, 3):
                refused += 1
                self.fails(Refused("order"), told_back, order)
            else:
                found = told_back(order)
                self.has_order(order, found)
                self.assertEqual(rings(found[0].rooms, 3), ())
                self.assertIsNotNone(alike(each, found[0]))
        self.assertGreater(refused, 5)

    def test_in_every_way(self):
        for each in [ONE, FIVE, BOW, TWO, SQUARE, PENTAGON, HEXAGON, UNLIKE, GRID, TORN]:
            order = order_of(each, shuffled(len(identity(each)), random.Random(4)))
            self.gives(told_back(order), told_back, order)
        for each in [TRIANGLE, TAILED, K5, FANO]:
            self.fails(Refused("order"), told_back, order_of(each, identity(each)))

    def test_spoilt(self):
        chance = random.Random(5)
        for each in [ONE, BOW, SQUARE]:
            order = order_of(each, shuffled(len(identity(each)), chance))
            many = len(order.ups)
            for at, row in enumerate(order.ups):
                missing = [number for number in range(many) if number not in row][:2]
                rows = [row[1:], row[:-1], row + (many,), (-1,) + row, row[::-1] if len(row) > 1 else (), list(row), row + row[-1:], None]
                for other in rows + [tuple(sorted(row + (number,))) for number in missing]:
                    self.fails(Refused("order"), told_back, Order(order.ups[:at] + (other,) + order.ups[at + 1:], order.opposites))
                for other in [None, many, -1, str(at), order.opposites[at - 1], order.opposites[at] + 0.0]:
                    opposites = order.opposites[:at] + (other,) + order.opposites[at + 1:]
                    self.fails(Refused("order"), told_back, Order(order.ups, opposites))
            for ups, opposites in [(order.ups[1:], order.opposites[1:]), (order.ups, order.opposites[1:]), (order.ups[1:], order.opposites),
                                   (list(order.ups), order.opposites), (order.ups, list(order.opposites)), (order.opposites, order.ups),
                                   (order.ups + ((many,),), order.opposites + (many,)), (order.ups[::-1], order.opposites)]:
                self.fails(Refused("order"), told_back, Order(ups, opposites))

    def test_numbers_that_are_no_integers(self):
        order = order_of(ONE, identity(ONE))
        for value in (True, 1.0):
            ups = (order.ups[0][:1] + (value,) + order.ups[0][2:],) + order.ups[1:]
            self.assertEqual(ups, order.ups)
            self.fails(Refused("order"), told_back, Order(ups, order.opposites))
            self.fails(Refused("order"), told_back, Order(order.ups, order.opposites[:6] + (value,) + order.opposites[7:]))

    def test_a_number_more(self):
        # Each number is doubled, at each place, and stands for what another one stands for.
        for each in [ONE, BOW]:
            order = order_of(each, identity(each))
            many = len(order.ups)
            for number in range(many):
                for place in range(many + 1):
                    moved = [at + (at >= place) for at in range(many)]
                    ups, opposites = [None] * (many + 1), [None] * (many + 1)
                    for at, row in list(enumerate(order.ups)) + [(number, order.ups[number])]:
                        own = [moved[up] for up in row] + [place for up in row if up == number]
                        to = moved[at] if ups[moved[at]] is None else place
                        ups[to], opposites[to] = tuple(sorted(own)), moved[order.opposites[at]]
                    self.fails(Refused("order"), told_back, Order(tuple(ups), tuple(opposites)))

    def test_numbers_less(self):
        # Lots of two outcomes and their opposites are left out, so that all outcomes are left.
        order = order_of(FIVE, identity(FIVE))
        for out in [number for number, row in enumerate(order.ups) if len(row) == 8]:
            kept = [number for number in identity(FIVE) if number not in (out, order.opposites[out])]
            ups = [tuple([kept.index(up) for up in order.ups[number] if up in kept]) for number in kept]
            opposites = [kept.index(order.opposites[number]) for number in kept]
            self.fails(Refused("order"), told_back, Order(tuple(ups), tuple(opposites)))

    def test_two_pieces_turned_against_each_other(self):
        # Opposites that are no opposites of any book, though each number has one and is the opposite of it.
        order = order_of(TWO, identity(TWO))
        opposites = list(order.opposites)
        one, other = opposites[1], opposites[2]
        opposites[1], opposites[2], opposites[one], opposites[other] = other, one, 2, 1
        self.fails(Refused("order"), told_back, Order(order.ups, tuple(opposites)))

    def test_orders_of_nothing(self):
        for many in range(9):
            numbers = tuple(range(many))
            self.fails(Refused("order"), told_back, Order(tuple([(number,) for number in numbers]), numbers))
            self.fails(Refused("order"), told_back, Order((numbers,) * many, numbers))
            chain = tuple([numbers[at:] for at in numbers])
            self.fails(Refused("order"), told_back, Order(chain, numbers[::-1]))

    def test_lots_of_too_many_outcomes(self):
        # All lots of four, five and six things: six are no room.
        for many in (3, 4, 5, 6):
            lots = range(1 << many)
            ups = tuple([tuple([other for other in lots if one & ~other == 0]) for one in lots])
            order = Order(ups, tuple([(1 << many) - 1 - one for one in lots]))
            if many < 6:
                self.has_order(order, told_back(order))
            else:
                self.fails(Refused("order"), told_back, order)
        # Twenty-five atoms above none and below all.
        ups = (tuple(range(52)),) + tuple([(k, 51) for k in range(1, 51)]) + ((51,),)
        self.fails(Refused("order"), told_back, Order(ups, (51,) + tuple(range(50, 0, -1)) + (0,)))

    def test_one_order_of_two_books(self):
        # With rings of three there may be one order without being alike.
        knot = book("a b c\nc d e\na e f")
        self.fails(Refused("order"), told_back, order_of(knot, identity(knot)))

    def test_any_values(self):
        order = order_of(ONE, identity(ONE))
        for value in odd_values() + [Thing(ups=order.ups, opposites=order.opposites)]:
            self.fails(Refused("order"), told_back, Order(value, order.opposites))
            self.fails(Refused("order"), told_back, Order(order.ups, value))
            self.fails(Refused("order"), told_back, Order(value, value))
            self.fails(Refused("order"), told_back, Order((value,) + order.ups[1:], order.opposites))
            self.fails(Refused("order"), told_back, Order(order.ups, (value,) + order.opposites[1:]))
            if value is not True:
                self.fails(Refused("order"), told_back, Order(order.ups[:-1] + ((value,),), order.opposites))
            self.fails(Refused("order"), told_back, value)
        huge = tuple([(k,) for k in range(20000)])
        self.fails(Refused("order"), told_back, Order(huge, tuple(range(20000))))

    def test_books_with_one_name(self):
        self.assertEqual(told_back(order_of(Book((("x", "y", "z"),)), identity(ONE)))[0], ONE)


if __name__ == "__main__":
    unittest.main()
