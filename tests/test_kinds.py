"""Corners and kinds: points [33] and [34]."""

import random
import unittest
from itertools import combinations, product

from common import Case, Thing, odd_values
from oracle import Model, short_rings_of
from samples import BOW, FIVE, HEXAGON, ONE, PENTAGON, SMALL, SQUARE, TRIANGLE, TWO, UNLIKE, book, made_houses, star
from test_terms import made_term, tree_of, value_by_words
from roomlooks.books import Book
from roomlooks.errors import Refused
from roomlooks.kinds import (PARTS, Same, Unlike, check_unlike, compare_terms, corners_of, grown_from, kind_implies, kind_of,
                             kind_value, term_of_kind)
from roomlooks.terms import check_term, read_term, value_of
from roomlooks.texts import read_book
from roomlooks.verdicts import House, court

HOUSES = ([each for each in SMALL if not short_rings_of(each.rooms)] + [FIVE, PENTAGON, book("a b c d\nd e f g")]
          + made_houses(58, 5, 4))
KINDS = [(corners, part) for size in range(5) for corners in combinations(range(4), size) for part in PARTS]


def made_terms(seed, many, letters="AB"):
    chance, found = random.Random(seed), []
    for _ in range(many):
        term = made_term(chance, chance.randint(1, 8))
        found.append(tuple([chance.choice(letters) if item in "ABC" else item for item in term]))
    return found


def corners_in(model, one, other):
    return [model.meet(x, y) for x in (one, model.opposite(one)) for y in (other, model.opposite(other))]


def part_of(tree):
    """The part of a term, by the words: unlike parts other than none and all meet in none and join to all."""
    word, parts = tree
    if not parts:
        return word
    values = [part_of(part) for part in parts]
    turned = {"none": "all", "all": "none", "A": "not A", "not A": "A", "B": "not B", "not B": "B"}
    if word == "not":
        return turned[values[0]]
    if values[0] == values[1]:
        return values[0]
    weak, strong = ("none", "all") if word == "and" else ("all", "none")
    left = [value for value in values if value != strong]
    return left[0] if len(left) == 1 else weak


def is_true(tree, given):
    word, parts = tree
    values = [is_true(part, given) for part in parts]
    if word == "not":
        return not values[0]
    if word in ("and", "or"):
        return all(values) if word == "and" else any(values)
    return {"none": False, "all": True}.get(word, given.get(word))


def kind_by_words(term):
    tree = tree_of(term)
    rows = [{"A": one, "B": other} for one in (True, False) for other in (True, False)]
    return (tuple([corner for corner in range(4) if is_true(tree, rows[corner])]), part_of(tree))


class CornerTests(Case):
    def test_examples(self):
        house = court(read_book("a b c\nc d e\ne f g"))
        self.gives((("c",), (), (), ()), corners_of, house, ("b", "c"), ("c", "d"))
        self.assertEqual(len(grown_from(house, (("b", "c"), ("c", "d")))), 12)
        self.gives(((0, 1, 2), "A"), kind_of, read_term("A or not A and B"))

    def test_corners(self):
        for each in HOUSES:
            model, house = Model(each.rooms), House(each)
            step = 1 + len(model.sayings) // 12
            for one in model.sayings[::step]:
                for other in model.sayings:
                    found = corners_of(house, one, other)
                    self.assertEqual(found, tuple(corners_in(model, one, other)))
                    full = [corner for corner in found if corner]
                    grown = grown_from(house, (one, other))
                    if model.together(one, other):
                        self.assertEqual(len(grown), 2 ** len(full))
                    else:
                        self.assertLess(len(full), 2)
                        self.assertEqual(len(grown), 12 if full else 6)
                        self.assertTrue(not full or len(full[0]) == 1)

    def test_grown(self):
        for each in [ONE, BOW, TWO, UNLIKE, PENTAGON, star(3)]:
            model, house = Model(each.rooms), House(each)
            for many in range(4):
                for row in list(combinations(model.sayings, many))[::17]:
                    found = {(), model.all} | set(row)
                    while True:
                        more = found | set([model.opposite(one) for one in found])
                        more |= set([model.join(a, b) for a in more for b in more]) | set([model.meet(a, b) for a in more for b in more])
                        if more == found:
                            break
                        found = more
                    self.assertEqual(grown_from(house, row), tuple([s for s in model.sayings if s in found]))

    def test_in_every_way(self):
        house = House(BOW)
        self.gives(((), (), (), ("c",)), corners_of, house, ("a",), ("d",))
        self.gives(((), ("a", "b", "c")), grown_from, house, ())
        self.gives(((), ("a",), ("b", "c"), ("a", "b", "c")), grown_from, house, (("a",),))
        self.gives(((), ("a",), ("b", "c"), ("a", "b", "c")), grown_from, house, (("b", "c"), ("a",), ()))
        for each in [HEXAGON, FIVE]:
            row = tuple([(name,) for name in each.outcomes()[:4]])
            self.gives(grown_from(House(each), row), grown_from, House(each), row)
        self.assertEqual(len(grown_from(House(FIVE), tuple([(name,) for name in "abcde"]))), 32)


class KindTests(Case):
    def test_parts(self):
        self.assertEqual(PARTS, ("none", "A", "B", "not A", "not B", "all"))

    def test_kinds_of_terms(self):
        for term in made_terms(1, 500) + [("A",), ("B",), ("none",), ("all",), ("A", "not"), ("A", "B", "and"), ("A", "B", "or")]:
            self.assertEqual(kind_of(term), kind_by_words(term))

    def test_in_every_way(self):
        for text, kind in [("A", ((0, 1), "A")), ("not B", ((1, 3), "not B")), ("none", ((), "none")), ("all", ((0, 1, 2, 3), "all")),
                           ("A and B", ((0,), "none")), ("A or B", ((0, 1, 2), "all")), ("A and not A", ((), "none")),
                           ("(A or B) and (A or not B)", ((0, 1), "all")), ("A and all or none", ((0, 1), "A"))]:
            self.gives(kind, kind_of, read_term(text))
        for kind in KINDS:
            self.gives(term_of_kind(kind), term_of_kind, kind)

    def test_terms_of_kinds(self):
        self.assertEqual(len(KINDS), 96)
        for kind in KINDS:
            term = term_of_kind(kind)
            self.assertIsNone(check_term(term))
            self.assertEqual(kind_of(term), kind)

    def test_other_letters(self):
        for term in [("C",), ("A", "Z", "and"), ("A", "B", "or", "C", "not", "and"), ("A", "not", "D", "or")]:
            self.fails(Refused("letter"), kind_of, term)
            self.fails(Refused("letter"), compare_terms, term, ("A",))
            self.fails(Refused("letter"), compare_terms, ("A",), term)

    def test_values(self):
        terms = made_terms(2, 25)
        for each in HOUSES:
            model, house = Model(each.rooms), House(each)
            step = 1 + len(model.sayings) // 6
            for one in model.sayings[::step]:
                for other in model.sayings[::step]:
                    corners = corners_in(model, one, other)
                    core = ()
                    for corner in corners:
                        core = model.join(core, corner)
                    parts = {"none": (), "A": one, "B": other, "not A": model.opposite(one), "not B": model.opposite(other), "all": model.all}
                    for term in terms:
                        kind = kind_of(term)
                        wanted = model.meet(parts[kind[1]], model.opposite(core))
                        for corner in kind[0]:
                            wanted = model.join(wanted, corners[corner])
                        self.assertEqual(kind_value(house, kind, one, other), wanted)
                        self.assertEqual(value_by_words(model, tree_of(term), {"A": one, "B": other}), wanted)

    def test_values_in_every_way(self):
        house = House(BOW)
        for kind in KINDS[::5]:
            wanted = value_of(house, term_of_kind(kind), {"A": ("a",), "B": ("d",)})
            self.gives(wanted, kind_value, house, kind, ("a",), ("d",))
        self.gives(("a", "b"), kind_value, house, ((0, 1, 2), "all"), ("a",), ("d",))

    def test_implying(self):
        cases = [(House(each), one, other) for each, one, other in [
            (book("a b c d"), ("a", "b"), ("a", "c")), (TWO, ("a",), ("d",)), (BOW, ("a", "c"), ("d",)), (UNLIKE, ("a",), ("c", "d"))]]
        values = {kind: [kind_value(house, kind, one, other) for house, one, other in cases] for kind in KINDS}
        models = [Model(house.book.rooms) for house, _, _ in cases]
        for kind, later in product(KINDS, KINDS):
            wanted = all([model.implies(a, b) for model, a, b in zip(models, values[kind], values[later])])
            self.assertIs(kind_implies(kind, later), wanted)
        self.gives(True, kind_implies, ((0,), "none"), ((0, 1), "A"))
        self.gives(True, kind_implies, ((0,), "A"), ((0, 1), "A"))
        self.gives(False, kind_implies, ((0,), "A"), ((0, 1), "B"))
        self.gives(False, kind_implies, ((0, 2), "none"), ((0, 1), "all"))
        self.gives(True, kind_implies, ((0,), "not B"), ((0, 1), "all"))


def is_unlike(first, second, value):
    """Whether an Unlike of the right kinds is one, by the words."""
    if not isinstance(value.book, Book) or short_rings_of(value.book.rooms):
        return False
    model = Model(value.book.rooms)
    if value.one not in model.lots or value.other not in model.lots:
        return False
    given = {"A": value.one, "B": value.other}
    found = (value_by_words(model, tree_of(first), given), value_by_words(model, tree_of(second), given))
    return found == (value.first, value.second) and found[0] != found[1]


class CompareTests(Case):
    def test_classes(self):
        self.assertEqual(vars(Same(1)), {"kind": 1})
        self.assertEqual(vars(Same(kind=None)), {"kind": None})
        self.assertEqual(vars(Unlike(1, 2, 3, 4, 5)), {"book": 1, "one": 2, "other": 3, "first": 4, "second": 5})
        made = Unlike(book=None, one=(), other=[], first="a", second=0)
        self.assertEqual(vars(made), {"book": None, "one": (), "other": [], "first": "a", "second": 0})

    def test_all_kinds(self):
        for kind, later in list(product(KINDS, KINDS))[::5] + [(kind, kind) for kind in KINDS]:
            first, second = term_of_kind(kind), term_of_kind(later)
            found = compare_terms(first, second)
            if kind == later:
                self.assertEqual([type(found), found.kind], [Same, kind])
            else:
                self.assertIs(check_unlike(first, second, found), True)
        for kind, later in list(product(KINDS, KINDS))[::41]:
            if kind != later:
                first, second = term_of_kind(kind), term_of_kind(later)
                self.assertTrue(is_unlike(first, second, compare_terms(first, second)))

    def test_in_every_way(self):
        for first, second in [("A", "A and all"), ("A or B", "B or A"), ("A", "A or not A and B"), ("none", "A and B and not A")]:
            one, other = read_term(first), read_term(second)
            self.gives(compare_terms(one, other), compare_terms, one, other)
        self.gives(Same(((0, 1), "A")), compare_terms, ("A",), ("A", "all", "and"))
        for first, second in [("A", "B"), ("A and B or A and not B", "A"), ("A", "A or A and B and not B or none and B or B")]:
            one, other = read_term(first), read_term(second)
            found = compare_terms(one, other)
            self.gives(found, compare_terms, one, other)
            self.gives(True, check_unlike, one, other, found)
            self.gives(False, check_unlike, other, one, found)
            self.gives(False, check_unlike, one, one, found)

    def test_other_houses_will_do(self):
        first, second = read_term("A and (B or not B)"), read_term("A and B or A and not B")
        passed = 0
        for each in [ONE, TWO, BOW, UNLIKE, TRIANGLE, SQUARE]:
            model = Model(each.rooms)
            for one in model.sayings[::2]:
                for other in model.sayings[::3]:
                    if short_rings_of(each.rooms):
                        value = Unlike(each, one, other, one, ())
                        self.assertIs(check_unlike(first, second, value), False)
                        continue
                    given = {"A": one, "B": other}
                    value = Unlike(each, one, other, value_of(House(each), first, given), value_of(House(each), second, given))
                    wanted = is_unlike(first, second, value)
                    passed += wanted
                    self.assertIs(check_unlike(first, second, value), wanted)
        self.assertGreater(passed, 10)

    def test_spoilt(self):
        first, second = read_term("A"), read_term("A and B or A and not B")
        good = compare_terms(first, second)
        model = Model(good.book.rooms)
        self.gives(True, check_unlike, first, second, good)
        for name in vars(good):
            others = [None, (), ("z",), list(good.first), ("a",), model.all, good.first, good.second, TRIANGLE, BOW, good.book.rooms,
                      House(good.book), "a", True]
            for other in others + model.sayings:
                value = Unlike(**{**vars(good), name: other})
                wanted = (name == "book" or type(other) is tuple) and is_unlike(first, second, value)
                self.gives(wanted, check_unlike, first, second, value)

    def test_any_value(self):
        first, second = read_term("A"), read_term("B")
        good = compare_terms(first, second)
        for value in odd_values() + [Thing(**vars(good)), Same(((0,), "A"))]:
            self.gives(False, check_unlike, first, second, value)
            for name in vars(good):
                self.gives(False, check_unlike, first, second, Unlike(**{**vars(good), name: value}))


if __name__ == "__main__":
    unittest.main()
