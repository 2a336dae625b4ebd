"""Parting: point [90]."""

import random
import unittest
from itertools import combinations

from common import Case, odd_values
from oracle import rings, short_rings_of
from samples import (BOW, EIGHT, FANO, FIVES, GRID, HEXAGON, K5, LARGE, LINES, MIDDLE, ONE, PENTAGON, PIECES, SMALL, SQUARE,
                     TAILED, TORN, TRIANGLE, TWO, apart, book, made_books, pairs_book, plane, ring_of, star)
from roomlooks.books import Book
from roomlooks.errors import InvalidBook, InvalidNumber, Refused
from roomlooks.mends import (all_shares, check_cheapest, check_needed, cheapest_parting, fewest_parting, more_needed,
                             parted_book, parting_rings)
from roomlooks.texts import read_book
from roomlooks.trees import extra_shares

K4 = book("a b c\na d e\nb d f\nc e f")
TWINS = book("a b c\nc d e\na e f\ng h i\ni j k\ng k l")
# So many shares must be parted: 0, 1, 2, 3, 4 and more.
NEEDS = [(BOW, 0), (PENTAGON, 0), (HEXAGON, 0), (TRIANGLE, 1), (SQUARE, 1), (TAILED, 1), (TWINS, 2), (K4, 3), (GRID, 3),
         (K5, None), (LINES, None), (FIVES, None)]
BOOKS = SMALL + MIDDLE + [K4, TWINS] + made_books(60, 25, 6)


def rings_in(rooms):
    return [ring for size in range(3, len(rooms) + 1) for ring in rings(rooms, size)]


def passed(ring):
    found = []
    for at, (room, outcome) in enumerate(ring):
        found += [(room, outcome), (ring[(at + 1) % len(ring)][0], outcome)]
    return sorted(found)


def left(found, lot):
    return [ring for ring in found if not set(passed(ring)) & set(lot)]


def made_prices(each, chance, most=4):
    return {share: chance.randint(0, most) for share in shares_of(each)}


def shares_of(each):
    return sorted([(number, name) for number, room in enumerate(each.rooms) for name in room
                   if sum([name in other for other in each.rooms]) > 1])


def fewest(each):
    """The least number of shares whose parting leaves no short ring, None for more than three."""
    found = short_rings_of(each.rooms)
    used = sorted(set([share for ring in found for share in passed(ring)]))
    for many in range(4):
        if any([not left(found, lot) for lot in combinations(used, many)]):
            return many
    return None


def is_certificate(each, many, value, barred=()):
    """Whether a certificate made of tuples shows by the words that more than so many are needed."""
    short = short_rings_of(each.rooms)

    def fits(ring):
        return type(ring) is tuple and ring in short and not set(passed(ring)) & set(barred)

    if type(value) is not tuple or len(value) < 2:
        return False
    if value[0] == "rings" and len(value) == 2 and type(value[1]) is tuple:
        rows = value[1]
        if len(rows) != many + 1 or not all([fits(ring) for ring in rows]):
            return False
        return all([not set(passed(a)) & set(passed(b)) for a, b in combinations(rows, 2)])
    if value[0] != "cases" or len(value) != 3 or many < 1 or not fits(value[1]):
        return False
    shares = passed(value[1])
    if type(value[2]) is not tuple or len(value[2]) != len(shares):
        return False
    return all([is_certificate(each, many - 1, part, tuple(barred) + (share,)) for share, part in zip(shares, value[2])])


def spoilt(value):
    """Objects that differ from a certificate in one place."""
    for word in ["ring", "case", None, 0, "cases" if value[0] == "rings" else "rings"]:
        yield (word,) + value[1:]
    yield list(value)
    yield value[:1]
    yield value + (None,)
    if value[0] == "rings":
        for at, ring in enumerate(value[1]):
            for other in [ring[::-1], ring[1:], list(ring), None, value[1][at - 1], ring[1:] + ring[:1]]:
                yield ("rings", value[1][:at] + (other,) + value[1][at + 1:])
        yield ("rings", value[1][1:])
        yield ("rings", value[1] + value[1][:1])
        yield ("rings", list(value[1]))
    else:
        for ring in [value[1][::-1], list(value[1]), None, (), value[1][1:] + value[1][:1]]:
            yield ("cases", ring, value[2])
        for parts in [value[2][::-1], value[2][1:], value[2] + value[2][:1], list(value[2]), None]:
            yield ("cases", value[1], parts)
        for at, part in list(enumerate(value[2]))[::3]:
            for other in list(spoilt(part))[::2] + [None]:
                yield ("cases", value[1], value[2][:at] + (other,) + value[2][at + 1:])


class ShareTests(Case):
    def test_all_shares(self):
        for each in BOOKS + LARGE:
            self.assertEqual(all_shares(each), tuple(shares_of(each)))
        self.gives(((0, "c"), (1, "c")), all_shares, BOW)
        self.gives((), all_shares, TWO)

    def test_parted_books(self):
        chance = random.Random(1)
        for each in BOOKS:
            shares, names = shares_of(each), [n for n in "abcdefghijklmnopqrstuvwxyz" if n not in each.outcomes()]
            for many in range(min(len(shares), 24 - len(each.outcomes())) + 1):
                lot = tuple(sorted(chance.sample(shares, many)))
                new = dict(zip(lot, names))
                rooms = [tuple(sorted([new.get((number, name), name) for name in room])) for number, room in enumerate(each.rooms)]
                self.assertEqual(parted_book(each, lot), Book(tuple(rooms)))
                kept = [tuple([room for room, _ in ring]) for ring in left(rings_in(each.rooms), lot)]
                self.assertEqual([tuple([room for room, _ in ring]) for ring in rings_in(rooms)], kept)

    def test_in_every_way(self):
        self.gives(BOW, parted_book, BOW, ())
        self.gives(book("a b f\nc d e"), parted_book, BOW, ((0, "c"),))
        self.gives(book("a b f\ng d e"), parted_book, BOW, ((0, "c"), (1, "c")))
        self.gives(book("a b g\nc d h\na e f"), parted_book, TRIANGLE, ((0, "c"), (1, "e")))
        # Names with two letters come behind all that have one: here just "k" to "z" are left.
        wide = [name for name in "klmnopqrstuvwxyz"] + ["aa", "ab", "ac", "ad"]
        rooms = tuple([tuple(sorted(wide[4 * k:4 * k + 4])) for k in range(5)])
        self.gives(Book(rooms), parted_book, K5, all_shares(K5))
        self.gives(book("b c v\nd e y\nf g h\ni j k\nl m n\no p q\nr s t\nu w x"), parted_book,
                   book("a b c\na d e\nf g h\ni j k\nl m n\no p q\nr s t\nu w x"), ((0, "a"), (1, "a")))
        self.fails(InvalidBook(10), parted_book, star(10), all_shares(star(10))[:4])


class CheapTests(Case):
    def is_cheap(self, each, prices, lot, found):
        """Whether a lot leaves no ring, and no cheaper one of so many does."""
        if left(found, lot):
            return False
        least = min([sum([prices[share] for share in other]) for other in combinations(all_shares(each), len(lot))
                     if not left(found, other)])
        return sum([prices[share] for share in lot]) == least

    def test_cheapest(self):
        chance = random.Random(2)
        for each in [ONE, BOW, TRIANGLE, SQUARE, TAILED, PENTAGON, K4, TWO, PIECES, book("a b c\nc d e\ne f a\nb d f")]:
            found = rings_in(each.rooms)
            for _ in range(4):
                prices = made_prices(each, chance)
                lot = cheapest_parting(each, prices)
                self.assertEqual(len(lot), extra_shares(each))
                self.assertEqual(lot, tuple(sorted(set(lot))))
                self.assertTrue(self.is_cheap(each, prices, lot, found))

    def test_rings_that_show_it(self):
        chance = random.Random(3)
        for each in BOOKS + [LINES]:
            found = rings_in(each.rooms) if len(each.rooms) < 8 else None
            for most in (0, 1, 5):
                prices = made_prices(each, chance, most)
                lot = cheapest_parting(each, prices)
                table = parting_rings(each, lot)
                self.assertEqual(list(table), list(lot))
                self.assertIs(check_cheapest(each, prices, lot, table), True)
                if found is not None:
                    for share in lot:
                        only = [ring for ring in found if set(passed(ring)) & set(lot) == {share}]
                        self.assertEqual(only, [table[share]])

    def test_rings_of_any_such_lot(self):
        for each in [TRIANGLE, SQUARE, K4, TAILED]:
            found = rings_in(each.rooms)
            for lot in list(combinations(all_shares(each), extra_shares(each)))[::3]:
                if not left(found, lot):
                    table = {share: [r for r in found if set(passed(r)) & set(lot) == {share}][0] for share in lot}
                    self.gives(table, parting_rings, each, lot)

    def test_all_lots(self):
        chance = random.Random(4)
        for each in [BOW, TRIANGLE, SQUARE, K4]:
            found, passing = rings_in(each.rooms), 0
            prices = made_prices(each, chance, 2)
            for many in range(extra_shares(each) + 2):
                for lot in combinations(all_shares(each), many):
                    table = {}
                    for share in lot:
                        fitting = [ring for ring in found if set(passed(ring)) & set(lot) == {share}]
                        table[share] = fitting[0] if fitting else None
                    wanted = not left(found, lot) and all(
                        [ring is not None and min([prices[other] for other in passed(ring)]) == prices[share]
                         for share, ring in table.items()])
                    passing += wanted
                    self.assertIs(check_cheapest(each, prices, lot, table), wanted)
                    if wanted:
                        self.assertTrue(self.is_cheap(each, prices, lot, found))
            self.assertGreater(passing, 0)

    def test_spoilt(self):
        chance = random.Random(5)
        for each in [TRIANGLE, K4, GRID, TORN]:
            prices = made_prices(each, chance, 3)
            lot = cheapest_parting(each, prices)
            table = parting_rings(each, lot)
            self.gives(True, check_cheapest, each, prices, lot, table)
            for other in [lot[1:], lot + lot[:1], lot[::-1] if len(lot) > 1 else (), list(lot), None, (), lot[0], ((True, lot[0][1]),),
                          tuple([list(share) for share in lot])]:
                self.gives(False, check_cheapest, each, prices, other, table)
            for share in lot:
                ring = table[share]
                for other in [None, ring[::-1], ring[1:] + ring[:1], list(ring), (), ring[:-1], "ring"]:
                    self.gives(False, check_cheapest, each, prices, lot, {**table, share: other})
                self.gives(False, check_cheapest, each, prices, lot, {key: table[key] for key in table if key != share})
            for more in [None, 0, "a", (0, "a", "b"), (-1, "a"), (0, "zz"), (1.5, "a")] + [s for s in all_shares(each) if s not in lot][:2]:
                self.gives(False, check_cheapest, each, prices, lot, {**table, more: table[lot[0]]})
            # The sequence of the keys does not matter.
            self.gives(True, check_cheapest, each, prices, lot, {share: table[share] for share in lot[::-1]})
            self.gives(False, check_cheapest, each, prices, lot, [(share, table[share]) for share in lot])
            self.gives(False, check_cheapest, each, prices, lot, None)
        # Keys that only look like a share.
        lot = cheapest_parting(TRIANGLE, {share: 0 for share in all_shares(TRIANGLE)})
        ring = parting_rings(TRIANGLE, lot)[lot[0]]
        for number in (lot[0][0] + 0.0, bool(lot[0][0])):
            self.assertIs(check_cheapest(TRIANGLE, {s: 0 for s in all_shares(TRIANGLE)}, lot, {(number, lot[0][1]): ring}), False)

    def test_cheaper_shares(self):
        prices = {share: 3 for share in all_shares(TRIANGLE)}
        for share in all_shares(TRIANGLE):
            table = {share: rings(TRIANGLE.rooms, 3)[0]}
            self.gives(True, check_cheapest, TRIANGLE, prices, (share,), table)
            self.gives(True, check_cheapest, TRIANGLE, {**prices, share: 0}, (share,), table)
            self.gives((share,), cheapest_parting, TRIANGLE, {**prices, share: 2})
            self.gives(False, check_cheapest, TRIANGLE, {**prices, share: 4}, (share,), table)
        self.gives(True, check_cheapest, BOW, {(0, "c"): 1, (1, "c"): 1}, (), {})
        # A share that no ring passes may not be parted, though no ring is left.
        self.gives(False, check_cheapest, BOW, {(0, "c"): 0, (1, "c"): 0}, ((0, "c"),), {(0, "c"): rings(TRIANGLE.rooms, 3)[0]})

    def test_in_every_way(self):
        for each in [ONE, BOW, TRIANGLE, K4, GRID, LINES, ring_of(10)]:
            prices = made_prices(each, random.Random(6))
            lot = cheapest_parting(each, prices)
            self.gives(lot, cheapest_parting, each, prices)
            self.gives(parting_rings(each, lot), parting_rings, each, lot)
            if lot:
                self.unchanged_by_changes(parting_rings, each, lot)

    def test_any_values(self):
        prices = {share: 1 for share in all_shares(TRIANGLE)}
        lot = cheapest_parting(TRIANGLE, prices)
        table = parting_rings(TRIANGLE, lot)
        for value in odd_values():
            self.gives(False, check_cheapest, TRIANGLE, prices, value, table)
            self.gives(False, check_cheapest, TRIANGLE, prices, (value,), table)
            self.gives(False, check_cheapest, TRIANGLE, prices, lot, value)
            self.gives(False, check_cheapest, TRIANGLE, prices, lot, {lot[0]: value})
            self.gives(False, check_cheapest, TRIANGLE, prices, ((lot[0][0], value),), table)
            if value != ():
                self.gives(False, check_cheapest, BOW, {}, value, {})


class FewTests(Case):
    def test_needs(self):
        for each, many in NEEDS:
            if many is None:
                self.fails(Refused("many"), fewest_parting, each)
                self.assertIsNotNone(more_needed(each, 3))
            else:
                lot = fewest_parting(each)
                self.gives(lot, fewest_parting, each)
                self.assertEqual((len(lot), fewest(each)), (many, many))
                self.gives(lot, fewest_parting, each, most=many)
                for most in range(many):
                    self.fails(Refused("many"), fewest_parting, each, most=most)

    def test_a_book_that_needs_four(self):
        each = book("a b c\na d e\nb d f\nc e f\ng h i\ni j k\ng k l")
        self.assertEqual(len(fewest_parting(each)), 4)
        self.gives(fewest_parting(each), fewest_parting, each, most=4)
        self.fails(Refused("many"), fewest_parting, each, most=3)
        self.assertTrue(is_certificate(each, 3, more_needed(each, 3)))
        five = book("a b c\na d e\nb d f\nc e f\ng h i\ng j k\nh j l\ni k l")
        self.fails(Refused("many"), fewest_parting, five)

    def test_fewest(self):
        for each in BOOKS:
            found, wanted = short_rings_of(each.rooms), fewest(each) if len(all_shares(each)) < 22 else None
            try:
                lot = fewest_parting(each)
            except Refused:
                self.assertIsNone(wanted)
                continue
            self.assertEqual(lot, tuple(sorted(set(lot))))
            self.assertTrue(set(lot) <= set(all_shares(each)))
            self.assertEqual(left(found, lot), [])
            if len(all_shares(each)) < 22:
                self.assertEqual(len(lot), 4 if wanted is None else wanted)
            for many in range(4):
                self.assertEqual(more_needed(each, many) is None, len(lot) <= many)

    def test_certificates(self):
        words = []
        for each in BOOKS + [LINES, FIVES, FANO, plane(3, 6)]:
            for many in range(4):
                found = more_needed(each, many)
                if found is not None:
                    words.append(found[0])
                    self.assertTrue(is_certificate(each, many, found))
                    self.assertIs(check_needed(each, many, found), True)
                    for other in range(4):
                        if other != many:
                            self.assertIs(check_needed(each, other, found), False)
        self.assertGreater(words.count("rings"), 20)
        self.assertGreater(words.count("cases"), 5)

    def test_example(self):
        each = read_book("a b c\na d e\nb d f\nc e f")
        self.assertEqual((len(fewest_parting(each)), more_needed(each, 2)[0], more_needed(each, 3)), (3, "cases", None))

    def test_spoilt_certificates(self):
        checked = 0
        for each, many in [(TRIANGLE, 0), (TWINS, 1), (K4, 0), (K4, 1), (K4, 2), (GRID, 2), (K5, 3)]:
            good = more_needed(each, many)
            self.gives(True, check_needed, each, many, good)
            for other in spoilt(good):
                checked += 1
                self.assertIs(check_needed(each, many, other), is_certificate(each, many, other))
        self.assertGreater(checked, 300)
        # A ring of five is no short one.
        self.gives(False, check_needed, PENTAGON, 0, ("rings", rings(PENTAGON.rooms, 5)))
        self.gives(False, check_needed, BOW, 0, ("rings", ()))
        ring = rings(TRIANGLE.rooms, 3)[0]
        self.gives(False, check_needed, TRIANGLE, 0, ("cases", ring, ()))
        # Against 0 only a ring helps, no cases.
        self.gives(False, check_needed, TRIANGLE, 0, ("cases", ring, (("rings", ()),) * 6))
        self.gives(False, check_needed, TRIANGLE, 0, ())

    def test_rings_that_pass_the_share(self):
        # Each part must do without the share that its case parts.
        ring, parts = more_needed(K4, 1)[1:]
        for at, part in enumerate(parts):
            value = ("cases", ring, parts[:at] + (("rings", (ring,)),) + parts[at + 1:])
            self.gives(False, check_needed, K4, 1, value)
        shares = passed(ring)
        for other in short_rings_of(K4.rooms):
            value = ("cases", ring, tuple([("rings", (other,)) if share not in passed(other) else parts[at]
                                           for at, share in enumerate(shares)]))
            self.gives(True, check_needed, K4, 1, value)

    def test_in_every_way(self):
        for each in [ONE, BOW, TRIANGLE, K4, GRID, LINES, EIGHT, apart(4, 5)]:
            for many in range(4):
                self.gives(more_needed(each, many), more_needed, each, many)

    def test_wrong_numbers(self):
        for value in odd_values() + [-1, 5, "3", (1,), 2.0]:
            self.fails(InvalidNumber("most"), fewest_parting, TRIANGLE, most=value)
            self.fails(InvalidNumber("most"), fewest_parting, LINES, most=value)
            self.fails(InvalidNumber("many"), more_needed, TRIANGLE, value)
        self.fails(InvalidNumber("many"), more_needed, TRIANGLE, 4)
        self.fails(Refused("many"), fewest_parting, TRIANGLE, most=0)
        self.gives((), fewest_parting, BOW, most=0)

    def test_any_values(self):
        good = more_needed(K4, 2)
        for value in odd_values():
            for many in range(4):
                self.gives(False, check_needed, K4, many, value)
                self.gives(False, check_needed, K4, many, ("rings", value))
                self.gives(False, check_needed, K4, many, ("rings", (value,) * (many + 1)))
                self.gives(False, check_needed, K4, many, ("cases", value, good[2]))
                self.gives(False, check_needed, K4, many, ("cases", good[1], value))
                self.gives(False, check_needed, K4, many, (value,) + good[1:])
                self.gives(False, check_needed, K4, many, ("cases", good[1], (value,) + good[2][1:]))

    def test_books_of_many_rings(self):
        for each in [LINES, FIVES, K5, pairs_book(6, [(a, b) for b in range(6) for a in range(b)])]:
            for many in range(4):
                self.assertTrue(check_needed(each, many, more_needed(each, many)))


if __name__ == "__main__":
    unittest.main()
