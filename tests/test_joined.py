"""Books joined: the opening of chapter 13, points [79] to [81]."""

import random
import unittest
from itertools import product

from common import Case, odd_values
from oracle import Model, far, rings, short_rings_of
from samples import (BOW, EIGHT, FANO, FIVE, ONE, PENTAGON, SQUARE, TRIANGLE, TWO, UNLIKE, apart, book, made_books, row_of, star)
from roomlooks.books import Book, renamed
from roomlooks.errors import InvalidBook, InvalidNumber, InvalidSaying, Refused, RoomError
from roomlooks.joined import greatest_across, joined, joined_girth, least_across, lifted, rings_across
from roomlooks.texts import read_book

ONE_BOOK, OTHER_BOOK = book("a b c\nc d e"), book("p q r\nr s t")
AT = (("a", "p"), ("e", "t"))
LONG = book("p q r\nr s t\nt u v")


def other_names(each):
    """The book with each name doubled, so that it has none of a book of single letters."""
    return renamed(each, {name: (name + name)[:5] for name in each.outcomes()})


def joins(seed, many, most=6):
    """Books, second books and pairs at which they can be joined."""
    chance, found = random.Random(seed), [(ONE_BOOK, OTHER_BOOK, AT), (ONE_BOOK, OTHER_BOOK, ()), (ONE_BOOK, LONG, AT)]
    books = [ONE, BOW, TWO, UNLIKE, TRIANGLE, SQUARE, PENTAGON, star(3), row_of(3), apart(2)]
    seconds = [other_names(each) for each in [ONE, BOW, TWO, TRIANGLE, star(3), row_of(3), row_of(4), apart(3), FIVE]]
    while len(found) < many:
        one, other = chance.choice(books), chance.choice(seconds)
        size = chance.randint(0, min(most, len(one.outcomes()), len(other.outcomes())))
        at = tuple(zip(chance.sample(one.outcomes(), size), chance.sample(other.outcomes(), size)))
        try:
            by_the_words(one, other, at)
        except RoomError:
            continue
        if len(one.rooms) + len(other.rooms) < 8:
            found.append((one, other, at))
    return found


def by_the_words(one, other, at):
    names = {second: first for first, second in at}
    rooms = [tuple(sorted([names.get(name, name) for name in room])) for room in other.rooms]
    return Book(one.rooms + tuple(rooms))


JOINS = joins(1, 45)


class JoinedTests(Case):
    def test_joined(self):
        for one, other, at in JOINS:
            self.assertEqual(joined(one, other, at=at), by_the_words(one, other, at))
        self.assertTrue(any([len(at) == 6 for _, _, at in joins(2, 200)]))

    def test_in_every_way(self):
        self.gives(read_book("a b c\nc d e\np q r\nr s t"), joined, ONE_BOOK, OTHER_BOOK)
        self.gives(read_book("a b c\nc d e\np q r\nr s t"), joined, ONE_BOOK, OTHER_BOOK, at=())
        self.gives(book("a b c\nc d e\na q r\nr s e"), joined, ONE_BOOK, OTHER_BOOK, at=AT)
        # A second outcome may have any name of the first book: it is replaced.
        self.gives(book("a b c\nb q r"), joined, ONE, book("a q r"), at=(("b", "a"),))
        self.gives(book("a b c\na q r"), joined, ONE, book("a q r"), at=(("a", "a"),))
        six = (("a", "p"), ("b", "s"), ("c", "v"), ("d", "q"), ("e", "t"), ("f", "w"))
        self.gives(book("a b c\nd e f\na d r\nb e u\nc f x"), joined, TWO, book("p q r\ns t u\nv w x"), at=six)

    def test_wrong_pairs(self):
        for value in odd_values() + [(("a", "z"),), (("z", "p"),), (("a", "a"),), (("a", "p"), ("a", "q")), (("a", "p"), ("b", "p")),
                                     [("a", "p")], (["a", "p"],), (("a",),), (("a", "p", "q"),), (("a", "p"), ("a", "p")), ("ap",),
                                     (("p", "a"),), "ap", (("a", "p"), None)]:
            if value == ():
                continue
            wrong = Refused("pairs")
            same = book("a b c")
            self.fails(wrong, joined, ONE_BOOK, OTHER_BOOK, at=value)
            self.fails(wrong, joined, ONE_BOOK, OTHER_BOOK, at=(("b", "q"), value))
            self.fails(wrong, lifted, ONE_BOOK, OTHER_BOOK, None, at=value)
            self.fails(wrong, rings_across, ONE_BOOK, OTHER_BOOK, None, at=value)
            self.fails(wrong, joined_girth, ONE_BOOK, OTHER_BOOK, at=value)
            self.fails(wrong, least_across, ONE_BOOK, OTHER_BOOK, None, None, at=value)
            self.fails(wrong, greatest_across, ONE_BOOK, OTHER_BOOK, None, None, at=value)
            self.fails(Refused("names"), joined, same, same)

    def test_wrong_names(self):
        for at in [(), (("b", "p"),), (("b", "q"), ("d", "s"))]:
            other = book("a p q\nq r s")
            self.fails(Refused("names"), joined, ONE_BOOK, other, at=at)
            self.fails(Refused("names"), lifted, ONE_BOOK, other, None, at=at)
            self.fails(Refused("names"), rings_across, ONE_BOOK, other, None, at=at)
            self.fails(Refused("names"), joined_girth, ONE_BOOK, other, at=at)
            self.fails(Refused("names"), least_across, ONE_BOOK, other, None, None, at=at)
            self.fails(Refused("names"), greatest_across, ONE_BOOK, other, None, None, at=at)
        # The first outcome of a pair is the name of an outcome of the second book besides.
        self.fails(Refused("names"), joined, ONE, book("a p q"), at=(("a", "p"),))

    def test_no_book(self):
        self.fails(InvalidBook(1), joined, ONE, book("p q r"), at=(("a", "p"), ("b", "q")))
        self.fails(InvalidBook(3), joined, ONE_BOOK, OTHER_BOOK, at=(("c", "s"), ("d", "t")))
        self.fails(InvalidBook(-1), joined, EIGHT, book("aa bb cc\ndd ee ff\ngg hh ii"))
        self.fails(InvalidBook(9), joined, EIGHT, book("aa bb cc"))
        self.fails(InvalidBook(9), lifted, EIGHT, book("aa bb cc"), None)
        self.fails(InvalidBook(9), rings_across, EIGHT, book("aa bb cc"), None)
        self.fails(InvalidBook(9), joined_girth, EIGHT, book("aa bb cc"))
        self.fails(InvalidBook(9), least_across, EIGHT, book("aa bb cc"), None, None)
        self.fails(InvalidBook(9), greatest_across, EIGHT, book("aa bb cc"), None, None)


class SayingTests(Case):
    def test_lifted(self):
        for one, other, at in JOINS:
            both, second = Model(by_the_words(one, other, at).rooms), Model(other.rooms)
            first, names = Model(one.rooms), {later: name for name, later in at}
            for saying in first.sayings:
                self.assertIn(saying, both.lots)
            found = []
            for saying in second.sayings:
                room, lot = second.forms[saying][-1]
                wanted = both.saying(len(one.rooms) + room, tuple(sorted([names.get(name, name) for name in lot])))
                self.assertEqual(lifted(one, other, saying, at=at), wanted)
                found.append(wanted)
            self.assertEqual(len(set(found)), len(found))
            shared = set(found) & set(first.sayings)
            common = {(), first.all} | set([(p,) for p, _ in at]) | set([first.opposite((p,)) for p, _ in at])
            self.assertEqual(shared, common)

    def test_implying(self):
        for one, other, at in JOINS[:12]:
            both, first, second = Model(by_the_words(one, other, at).rooms), Model(one.rooms), Model(other.rooms)
            new = [((p,), first.opposite((r,))) for p, q in at for r, s in at if p != r and other.room_of_two(q, s) is not None]
            for a, b in product(first.sayings, repeat=2):
                self.assertEqual(both.implies(a, b), first.implies(a, b) or (a, b) in new)
            lift = {saying: lifted(one, other, saying, at=at) for saying in second.sayings}
            common = [saying for saying in second.sayings if lift[saying] in first.lots]
            for a in first.sayings:
                for b in second.sayings:
                    if a not in [lift[saying] for saying in common] and b not in common:
                        self.assertFalse(both.implies(a, lift[b]) or both.implies(lift[b], a))

    def test_in_every_way(self):
        self.gives(("a", "q"), lifted, ONE_BOOK, OTHER_BOOK, ("p", "q"), at=AT)
        self.gives(("p", "q"), lifted, ONE_BOOK, OTHER_BOOK, ("p", "q"))
        self.gives(("a", "b", "c"), lifted, ONE_BOOK, OTHER_BOOK, ("p", "q", "r"), at=AT)
        self.gives(("b", "c"), lifted, ONE_BOOK, OTHER_BOOK, ("q", "r"), at=AT)
        self.gives((), lifted, ONE_BOOK, OTHER_BOOK, ())

    def test_wrong_sayings(self):
        for value in odd_values():
            if not isinstance(value, tuple):
                self.fails(InvalidSaying(-1), lifted, ONE_BOOK, OTHER_BOOK, value, at=AT)
                self.fails(InvalidSaying(-1), least_across, ONE_BOOK, OTHER_BOOK, ("d",), value)
            self.fails(InvalidSaying(1), lifted, ONE_BOOK, OTHER_BOOK, ("p", value), at=AT)
            self.fails(InvalidSaying(0), least_across, ONE_BOOK, OTHER_BOOK, (value if value != "a" else "p",), None, at=AT)
            self.fails(InvalidSaying(1), greatest_across, ONE_BOOK, OTHER_BOOK, ("d",), ("p", value), at=AT)
        # Sayings of the second book are those that it writes itself, with its own names.
        self.fails(InvalidSaying(0), lifted, ONE_BOOK, OTHER_BOOK, ("a",), at=AT)
        self.fails(InvalidSaying(2), lifted, ONE_BOOK, OTHER_BOOK, ("s", "t"), at=AT)


class RingTests(Case):
    def test_rings_across(self):
        for one, other, at in JOINS + joins(3, 30, 2):
            if len(at) > 2:
                self.fails(Refused("many"), joined_girth, one, other, at=at)
                self.fails(Refused("many"), rings_across, one, other, 3, at=at)
                continue
            both, many = by_the_words(one, other, at), len(one.rooms)
            for size in (3, 4, 5):
                wanted = [ring for ring in rings(both.rooms, size)
                          if min([room for room, _ in ring]) < many <= max([room for room, _ in ring])]
                self.assertEqual(rings_across(one, other, size, at=at), tuple(wanted))
            sizes = [size for size in range(3, len(both.rooms) + 1) if rings(both.rooms, size)]
            self.assertEqual(joined_girth(one, other, at=at), sizes[0] if sizes else None)

    def test_when_a_joined_book_is_a_house(self):
        for one, other, at in joins(4, 60, 2):
            if len(at) > 2:
                continue
            house = not short_rings_of(by_the_words(one, other, at).rooms)
            wanted = not short_rings_of(one.rooms) and not short_rings_of(other.rooms)
            if len(at) == 2:
                first, second = far(one.rooms)[at[0][0], at[1][0]], far(other.rooms)[at[0][1], at[1][1]]
                wanted = wanted and (first is None or second is None or first + second > 4)
            self.assertEqual(house, wanted)

    def test_in_every_way(self):
        self.gives(4, joined_girth, ONE_BOOK, OTHER_BOOK, at=AT)
        self.gives(5, joined_girth, ONE_BOOK, LONG, at=(("a", "p"), ("e", "u")))
        self.gives(None, joined_girth, ONE_BOOK, OTHER_BOOK)
        # The only room of the second book is in the ring.
        single, ends = book("p q r"), (("a", "p"), ("e", "q"))
        self.gives((((0, "c"), (1, "e"), (2, "a")),), rings_across, ONE_BOOK, single, 3, at=ends)
        first = book("p q r\nr s t")
        self.gives((((0, "a"), (1, "r"), (2, "c")),), rings_across, book("a b c"), first, 3, at=(("a", "p"), ("c", "t")))
        self.gives(3, joined_girth, TRIANGLE, OTHER_BOOK)
        self.gives((), rings_across, ONE_BOOK, OTHER_BOOK, 4)
        self.gives((), rings_across, TRIANGLE, OTHER_BOOK, 3, at=())
        self.gives(rings_across(ONE_BOOK, OTHER_BOOK, 4, at=AT), rings_across, ONE_BOOK, OTHER_BOOK, 4, at=AT)
        self.assertEqual(rings_across(ONE_BOOK, OTHER_BOOK, 4, at=AT), (((0, "c"), (1, "e"), (3, "r"), (2, "a")),))

    def test_wrong_sizes(self):
        many = (("a", "p"), ("b", "s"), ("d", "q"))
        for value in odd_values() + [2, 6, "3", (3,), 3.0]:
            self.fails(InvalidNumber("size"), rings_across, ONE_BOOK, OTHER_BOOK, value, at=AT)
            self.fails(InvalidNumber("size"), rings_across, ONE_BOOK, OTHER_BOOK, value)
            self.fails(InvalidNumber("size"), rings_across, TWO, OTHER_BOOK, value, at=many)
        self.fails(Refused("many"), rings_across, TWO, OTHER_BOOK, 3, at=many)
        self.fails(Refused("many"), joined_girth, TWO, OTHER_BOOK, at=many)


class AcrossTests(Case):
    def test_example(self):
        one, other = read_book("a b c\nc d e"), read_book("p q r\nr s t")
        at = (("a", "p"), ("e", "t"))
        self.gives((("b", "c"), ("c", "d")), least_across, one, other, ("c",), ("r",), at=at)

    def test_least_and_greatest(self):
        for one, other, at in JOINS:
            both, first, second = Model(by_the_words(one, other, at).rooms), Model(one.rooms), Model(other.rooms)
            commons = [(), first.all] + [(p,) for p, _ in at] + [first.opposite((p,)) for p, _ in at]
            later = [(), second.all] + [(q,) for _, q in at] + [second.opposite((q,)) for _, q in at]
            for a in first.sayings[::2]:
                for b in second.sayings[1::3]:
                    if a in commons or b in later:
                        self.fails(Refused("common"), least_across, one, other, a, b, at=at)
                        self.fails(Refused("common"), greatest_across, one, other, a, b, at=at)
                        continue
                    lift = lifted(one, other, b, at=at)
                    uppers = [s for s in both.up(a) if both.implies(lift, s)]
                    lowers = [s for s in both.down(a) if both.implies(s, lift)]
                    least = [s for s in uppers if not any([t != s and both.implies(t, s) for t in uppers])]
                    greatest = [s for s in lowers if not any([t != s and both.implies(s, t) for t in lowers])]
                    self.assertEqual(least_across(one, other, a, b, at=at), tuple(least))
                    self.assertEqual(greatest_across(one, other, a, b, at=at), tuple(greatest))

    def test_in_every_way(self):
        self.gives((("a", "b", "c"),), least_across, ONE_BOOK, OTHER_BOOK, ("c",), ("r",))
        self.gives(((),), greatest_across, ONE_BOOK, OTHER_BOOK, ("c",), ("r",))
        self.gives((("a",), ("e",)), greatest_across, ONE_BOOK, OTHER_BOOK, ("a", "b"), ("p", "q"), at=AT)
        self.gives(greatest_across(ONE_BOOK, OTHER_BOOK, ("a", "c"), ("p", "r"), at=AT),
                   greatest_across, ONE_BOOK, OTHER_BOOK, ("a", "c"), ("p", "r"), at=AT)
        # In the order of sayings, whatever the order of the pairs.
        self.gives((("b", "c"), ("c", "d")), least_across, ONE_BOOK, OTHER_BOOK, ("c",), ("r",), at=AT[::-1])

    def test_common_sayings(self):
        for function in (least_across, greatest_across):
            for first in [(), ("a", "b", "c"), ("a",), ("e",), ("b", "c"), ("c", "d")]:
                self.fails(Refused("common"), function, ONE_BOOK, OTHER_BOOK, first, ("s",), at=AT)
                self.fails(InvalidSaying(0), function, ONE_BOOK, OTHER_BOOK, first, ("a",), at=AT)
            for second in [(), ("p", "q", "r"), ("p",), ("t",), ("q", "r"), ("r", "s")]:
                self.fails(Refused("common"), function, ONE_BOOK, OTHER_BOOK, ("d",), second, at=AT)
            self.fails(Refused("common"), function, FANO, OTHER_BOOK, (), ("s",))
        for each in made_books(57, 5, 3):
            self.fails(Refused("common"), least_across, each, book("va vb vc"), each.rooms[0], ("va",))


if __name__ == "__main__":
    unittest.main()
