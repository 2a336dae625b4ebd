"""Weights and settings of joined books: the opening of chapter 13 and point [84]."""

import random
import unittest
from fractions import Fraction

from common import Case, odd_values
from oracle import settings
from samples import (BOW, EIGHT, FANO, FIVE, GRID, K5, LINES, MIDDLE, ONE, PENTAGON, SMALL, SQUARE, TRIANGLE, TWO, apart, book, made_books,
                     row_of, star)
from test_bounds import NEVER, SEVEN
from test_corners import made_weight
from test_joined import AT, JOINS, ONE_BOOK, OTHER_BOOK, by_the_words, joins
from roomlooks.bounds import greatest_share, least_share
from roomlooks.edits import without_room
from roomlooks.errors import InvalidBook, InvalidNumber, InvalidWeight, NoWeight, Refused
from roomlooks.fractions import minus
from roomlooks.mixed import count_joined, extended, extensions, joined_weight, joint_range, weight_across, weight_parts
from roomlooks.weights import check_some, even_weight, share, some_weight

HALF, ZERO, FULL, THIRD = (1, 2), (0, 1), (1, 1), (1, 3)
# Seven rooms with no weight: three of four outcomes, and four of three that have all of these.
DOUBLED = book("aa bb cc dd\nee ff gg hh\nii jj kk ll\naa ee ii\nbb ff jj\ncc gg kk\ndd hh ll")
PAIRS = [(ONE_BOOK, OTHER_BOOK, ("a", "p")), (ONE, book("p q r"), ("a", "q")), (TRIANGLE, OTHER_BOOK, ("c", "r")), (FIVE, OTHER_BOOK, ("e", "r")),
         (TRIANGLE, book("p q r\nr s t\np t u"), ("a", "p")), (book("b c d e\nf g h i"), book("p q r"), ("f", "r"))]


def worth(pair):
    return Fraction(pair[0], pair[1])


def shares(each, weight):
    return dict(zip(each.outcomes(), weight))


class WeightTests(Case):
    def made(self, seed, many):
        """Joined books with a weight of each book, of which each has the share that the joined weight has."""
        chance = random.Random(seed)
        for one, other, at in joins(seed, many):
            both = by_the_words(one, other, at)
            weight = some_weight(both) if chance.random() < 0.5 else made_weight(both, chance) if len(both.rooms) < 6 else some_weight(both)
            names, table = {second: first for first, second in at}, shares(both, weight)
            first = tuple([table[name] for name in one.outcomes()])
            second = tuple([table[names.get(name, name)] for name in other.outcomes()])
            yield one, other, at, both, weight, first, second

    def test_joined_and_parted(self):
        for one, other, at, both, weight, first, second in self.made(1, 50):
            self.assertEqual(joined_weight(one, other, first, second, at=at), weight)
            self.assertEqual(weight_parts(one, other, weight, at=at), (first, second))
            self.assertTrue(check_some(one, first) and check_some(other, second))

    def test_shares_that_differ(self):
        chance, differing = random.Random(2), 0
        for one, other, at in joins(2, 50):
            first, second = made_weight(one, chance), made_weight(other, chance)
            both, names = by_the_words(one, other, at), {q: p for p, q in at}
            if any([shares(one, first)[p] != shares(other, second)[q] for p, q in at]):
                differing += 1
                self.fails(Refused("shares"), joined_weight, one, other, first, second, at=at)
            else:
                found = joined_weight(one, other, first, second, at=at)
                self.assertTrue(check_some(both, found))
                table = {**{names.get(name, name): part for name, part in shares(other, second).items()}, **shares(one, first)}
                self.assertEqual(found, tuple([table[name] for name in both.outcomes()]))
        self.assertGreater(differing, 5)

    def test_in_every_way(self):
        first, second = (ZERO, HALF, HALF, ZERO, HALF), (ZERO, HALF, HALF, ZERO, HALF)
        weight = joined_weight(ONE_BOOK, OTHER_BOOK, first, second, at=AT)
        self.gives(weight, joined_weight, ONE_BOOK, OTHER_BOOK, first, second, at=AT)
        self.gives((ZERO, HALF, HALF, ZERO, HALF, HALF, HALF, ZERO), joined_weight, ONE_BOOK, OTHER_BOOK, first, second, at=AT)
        self.gives(first + second, joined_weight, ONE_BOOK, OTHER_BOOK, first, second)
        self.gives(first + second, joined_weight, ONE_BOOK, OTHER_BOOK, first, second, at=())
        self.gives((first, second), weight_parts, ONE_BOOK, OTHER_BOOK, weight, at=AT)
        self.gives((first, second), weight_parts, ONE_BOOK, OTHER_BOOK, first + second)
        # An outcome of the second book that gives its place to one of the first may have the name of another one there.
        self.gives((HALF, ZERO, HALF, HALF, HALF), joined_weight, ONE, book("a q r"), (HALF, ZERO, HALF), (ZERO, HALF, HALF), at=(("b", "a"),))

    def test_wrong_weights(self):
        good = even_weight(ONE_BOOK)
        for value in odd_values():
            if not isinstance(value, tuple):
                self.fails(InvalidWeight(-1), joined_weight, ONE_BOOK, OTHER_BOOK, value, None, at=AT)
                self.fails(InvalidWeight(-1), joined_weight, ONE_BOOK, OTHER_BOOK, good, value, at=AT)
                self.fails(InvalidWeight(-1), weight_parts, ONE_BOOK, OTHER_BOOK, value, at=AT)
            self.fails(InvalidWeight(1), joined_weight, ONE_BOOK, OTHER_BOOK, good[:1] + (value,), value, at=AT)
            self.fails(InvalidWeight(1), joined_weight, ONE_BOOK, OTHER_BOOK, good, good[:1] + (value,) + good[2:], at=AT)
            self.fails(InvalidWeight(2), weight_parts, ONE_BOOK, OTHER_BOOK, (THIRD, THIRD, value), at=AT)
        self.fails(InvalidWeight(6), joined_weight, ONE_BOOK, OTHER_BOOK, (ZERO,) * 5, (ZERO,) * 4, at=AT)
        self.fails(InvalidWeight(8), weight_parts, ONE_BOOK, OTHER_BOOK, good + good, at=AT)
        # The weights are checked before their shares are compared.
        self.fails(InvalidWeight(7), joined_weight, ONE_BOOK, OTHER_BOOK, (FULL, ZERO, ZERO, FULL, ZERO), (ZERO, FULL, ZERO, HALF, ZERO), at=AT)
        self.fails(Refused("shares"), joined_weight, ONE_BOOK, OTHER_BOOK, (FULL, ZERO, ZERO, FULL, ZERO), (ZERO, FULL, ZERO, FULL, ZERO), at=AT)

    def test_errors_of_joining_come_first(self):
        for value in odd_values() + [(("a", "z"),), (("a", "p"), ("a", "q"))]:
            if value == ():
                continue
            self.fails(Refused("pairs"), joined_weight, ONE_BOOK, OTHER_BOOK, None, None, at=value)
            self.fails(Refused("pairs"), weight_parts, ONE_BOOK, OTHER_BOOK, None, at=value)
            self.fails(Refused("pairs"), count_joined, ONE_BOOK, OTHER_BOOK, at=value)
            self.fails(Refused("pairs"), joint_range, ONE_BOOK, OTHER_BOOK, value)
            self.fails(Refused("pairs"), weight_across, ONE_BOOK, OTHER_BOOK, value, None)
        same = book("a p q")
        for function, args in [(joined_weight, (None, None)), (weight_parts, (None,)), (count_joined, ())]:
            self.fails(Refused("names"), function, ONE, same, *args)
            self.fails(InvalidBook(9), function, EIGHT, book("aa bb cc"), *args)
        self.fails(Refused("names"), joint_range, ONE, same, ("b", "p"))
        self.fails(Refused("names"), weight_across, ONE, same, ("b", "p"), None)
        self.fails(InvalidBook(9), joint_range, EIGHT, book("aa bb cc"), ("a", "aa"))
        self.fails(InvalidBook(9), weight_across, EIGHT, book("aa bb cc"), ("a", "aa"), None)
        self.fails(InvalidBook(3), joined_weight, ONE_BOOK, OTHER_BOOK, None, None, at=(("c", "s"), ("d", "t")))
        self.fails(Refused("pairs"), joint_range, ONE_BOOK, OTHER_BOOK, (("a", "p"),))
        self.fails(Refused("pairs"), joint_range, ONE_BOOK, OTHER_BOOK, ("p", "a"))


class RangeTests(Case):
    def test_ranges(self):
        for one, other, pair in PAIRS:
            both = by_the_words(one, other, (pair,))
            low, high = least_share(both, (pair[0],)).value, greatest_share(both, (pair[0],)).value
            self.gives((low, high), joint_range, one, other, pair)
            # The two books have weights with these shares, which make one weight of the joined book.
            own = (least_share(one, (pair[0],)).value, greatest_share(one, (pair[0],)).value)
            later = (least_share(other, (pair[1],)).value, greatest_share(other, (pair[1],)).value)
            self.assertEqual(worth(low), max(worth(own[0]), worth(later[0])))
            self.assertEqual(worth(high), min(worth(own[1]), worth(later[1])))
            for value in [low, high] + ([HALF] if worth(low) <= Fraction(1, 2) <= worth(high) else []):
                found = weight_across(one, other, pair, value)
                self.gives(found, weight_across, one, other, pair, value)
                self.assertTrue(check_some(both, found))
                self.assertEqual(share(both, found, (pair[0],)), value)
            for value in [minus(low, (1, 10 ** 9)), (high[0] + high[1], high[1])]:
                self.fails(Refused("value"), weight_across, one, other, pair, value)

    def test_outcomes_that_never_come(self):
        tail = book("y z w")
        self.gives((ZERO, ZERO), joint_range, NEVER, tail, ("x", "w"))
        found = weight_across(NEVER, tail, ("x", "w"), ZERO)
        self.assertEqual(share(by_the_words(NEVER, tail, (("x", "w"),)), found, ("x",)), ZERO)
        self.fails(Refused("value"), weight_across, NEVER, tail, ("x", "w"), HALF)

    def test_no_weight(self):
        tail = book("p q r")
        for one, other, pair in [(SEVEN, tail, ("a", "p")), (tail, SEVEN, ("p", "a")), (SEVEN, tail, ("l", "r")), (DOUBLED, tail, ("aa", "q"))]:
            self.fails(NoWeight(), joint_range, one, other, pair)
            self.fails(NoWeight(), weight_across, one, other, pair, HALF)
            self.fails(NoWeight(), weight_across, one, other, pair, (7, 1))
            for value in odd_values() + [(2, 4), (1, 0), 1, [1, 2], (1, -2)]:
                self.fails(InvalidNumber("value"), weight_across, one, other, pair, value)

    def test_wrong_values(self):
        one, other, pair = PAIRS[0]
        for value in odd_values() + [(2, 4), (1, 0), 1, 0, [1, 2], (1, -2), (True, 1), "1/2", (0, 2)]:
            self.fails(InvalidNumber("value"), weight_across, one, other, pair, value)
        self.fails(Refused("value"), weight_across, one, other, pair, (2, 1))
        self.fails(Refused("value"), weight_across, one, other, pair, (-1, 2))


class CountTests(Case):
    def test_counts(self):
        for one, other, at in JOINS + joins(5, 60):
            if len(at) > 4:
                self.fails(Refused("many"), count_joined, one, other, at=at)
            else:
                self.gives(len(settings(by_the_words(one, other, at).rooms)), count_joined, one, other, at=at)
        self.assertTrue(any([len(at) > 4 for _, _, at in joins(5, 60)]))

    def test_in_every_way(self):
        self.gives(25, count_joined, ONE_BOOK, OTHER_BOOK)
        self.gives(25, count_joined, ONE_BOOK, OTHER_BOOK, at=())
        self.gives(3 ** 8, count_joined, apart(4), book("aa bb cc\ndd ee ff\ngg hh ii\njj kk ll"))
        self.gives(0, count_joined, K5, book("p q r\nx y z"), at=(("a", "p"),))
        # More than 24 outcomes are refused before more than four pairs.
        four, other = apart(4, 5), book("pp qq rr\nss tt uu\nvv ww xx\nkk ll mm")
        pairs = (("a", "pp"), ("f", "ss"), ("k", "vv"), ("p", "kk"), ("b", "ll"))
        self.fails(InvalidBook(8), count_joined, four, other, at=pairs)
        small = book("a b c\nd e f\ng h i\nj k l")
        at = (("a", "pp"), ("d", "ss"), ("g", "vv"), ("j", "kk"))
        self.gives(len(settings(by_the_words(small, other, at).rooms)), count_joined, small, other, at=at)
        self.fails(Refused("many"), count_joined, small, other, at=at + (("b", "tt"),))


class ExtendedTests(Case):
    def test_extended(self):
        chance, kinds = random.Random(6), []
        for each in SMALL + MIDDLE + made_books(72, 25, 6):
            for room in range(len(each.rooms)):
                if len(each.rooms) == 1:
                    continue
                rest = without_room(each, room)
                weight = made_weight(rest, chance) if len(rest.rooms) < 5 else some_weight(rest)
                table = shares(rest, weight)
                total = sum([worth(table[name]) for name in each.rooms[room] if name in table])
                new = [name for name in each.rooms[room] if name not in table]
                kinds.append((total > 1) - (total < 1))
                if total > 1 or (total < 1 and not new):
                    self.fails(Refused("shares"), extended, each, room, weight)
                    continue
                found = extended(each, room, weight)
                self.gives(found, extended, each, room, weight)
                self.assertTrue(check_some(each, found))
                later = shares(each, found)
                self.assertEqual({name: later[name] for name in table}, table)
        self.assertEqual(set(kinds), {-1, 0, 1})

    def test_in_every_way(self):
        self.gives((HALF, ZERO, HALF, HALF, ZERO), extended, BOW, 1, (HALF, ZERO, HALF))
        self.fails(Refused("shares"), extended, TRIANGLE, 2, (FULL, ZERO, ZERO, ZERO, FULL))
        full = book("a b c\nd e f\na d g\nb e g")
        self.assertTrue(check_some(full, extended(full, 2, (ZERO, HALF, HALF, HALF, ZERO, HALF, HALF))))

    def test_extensions(self):
        for each in SMALL + [PENTAGON, GRID, SQUARE] + made_books(73, 20, 5):
            if len(each.rooms) == 1:
                continue
            all_of_them = [setting for _, setting in settings(each.rooms)]
            for room in range(len(each.rooms)):
                rest = without_room(each, room)
                for _, setting in settings(rest.rooms)[:15]:
                    wanted = [one for one in all_of_them if set(one) & set(rest.outcomes()) == set(setting)]
                    self.assertEqual(extensions(each, room, setting), tuple(wanted))

    def test_extensions_in_every_way(self):
        self.gives((("a", "d"), ("a", "e")), extensions, BOW, 1, ("a",))
        self.gives((("c",),), extensions, BOW, 1, ("c",))
        self.gives((), extensions, TRIANGLE, 2, ("a", "e"))
        self.gives((("a", "d"), ("b", "d")), extensions, BOW, 0, ("d",))

    def test_wrong_settings(self):
        for value in odd_values() + [("a", "b"), ("d",), ["a"], ("a", "d"), (), "a", ("c", "c")]:
            self.fails(Refused("setting"), extensions, BOW, 1, value)

    def test_errors_in_order(self):
        for value in odd_values() + [2, -1, "0", (0,)]:
            self.fails(InvalidNumber("room"), extended, BOW, value, None)
            self.fails(InvalidNumber("room"), extensions, BOW, value, None)
            self.fails(InvalidBook(-1), extended, ONE, 0, value)
            self.fails(InvalidBook(-1), extensions, ONE, 0, value)
            if not isinstance(value, tuple):
                self.fails(InvalidWeight(-1), extended, BOW, 0, value)
            self.fails(InvalidWeight(0), extended, BOW, 0, (value,))
        self.fails(InvalidNumber("room"), extended, ONE, 1, None)
        self.fails(InvalidWeight(3), extended, BOW, 0, (FULL, ZERO, ZERO, ZERO))
        self.fails(InvalidWeight(4), extended, BOW, 0, (FULL, ZERO, HALF))

    def test_larger_books(self):
        for each in [FANO, LINES, star(10), row_of(10), TWO]:
            weight = some_weight(without_room(each, 0))
            try:
                self.assertTrue(check_some(each, extended(each, 0, weight)))
            except Refused as error:
                self.assertEqual(error.word, "shares")


if __name__ == "__main__":
    unittest.main()
