"""Terms: points [30] to [32]."""

import random
import unittest
from itertools import product

from common import Case, odd_values
from oracle import Model
from samples import BOW, HEXAGON, ONE, PENTAGON, TWO, UNLIKE, made_houses, star
from roomlooks.errors import InvalidTerm, InvalidText, Refused
from roomlooks.terms import check_term, pushed, read_term, show_term, value_of, worked
from roomlooks.verdicts import House

ITEMS = ["A", "B", "Z", "none", "all", "not", "and", "or"]
LONG = ("A",) * 50 + ("and",) * 49


def made_term(chance, many):
    """A term with so many letters and words that stand alone."""
    if many == 1:
        term = (chance.choice(["A", "B", "C", "none", "all"]),)
    else:
        cut = chance.randint(1, many - 1)
        term = made_term(chance, cut) + made_term(chance, many - cut) + (chance.choice(["and", "or"]),)
    return term + ("not",) * chance.choice([0, 0, 0, 1, 1, 2])


def made_terms(seed, many, most=8):
    chance = random.Random(seed)
    return [made_term(chance, chance.randint(1, most)) for _ in range(many)]


def tree_of(term):
    """The term as nested tuples (word, parts)."""
    stack = []
    for item in term:
        if item == "not":
            stack.append((item, (stack.pop(),)))
        elif item in ("and", "or"):
            later = stack.pop()
            stack.append((item, (stack.pop(), later)))
        else:
            stack.append((item, ()))
    assert len(stack) == 1
    return stack[0]


def texts_of(tree):
    """All texts of a term in which each of its parts has brackets or not."""
    word, parts = tree
    if not parts:
        return [word]
    inner = [[text for plain in texts_of(part) for text in (plain, "(" + plain + ")")] for part in parts]
    if word == "not":
        return ["not " + text for text in inner[0]]
    return [one + " " + word + " " + other for one, other in product(*inner)]


def value_by_words(model, tree, given):
    word, parts = tree
    values = [value_by_words(model, part, given) for part in parts]
    if word == "not":
        return model.opposite(values[0])
    if word in ("and", "or"):
        return model.meet(*values) if word == "and" else model.join(*values)
    return {"none": (), "all": model.all}.get(word, given.get(word))


def begins_a_term(items):
    """Whether some term begins with these items, by how many terms stand in a row."""
    terms = 0
    for item in items:
        if not isinstance(item, str) or item not in ITEMS:
            return False
        need = {"not": 1, "and": 2, "or": 2}.get(item, 0)
        if terms < need:
            return False
        terms += {0: 1, 1: 0, 2: -1}[need]
    return True


class CheckTests(Case):
    def test_all_short_tuples(self):
        for size in range(5):
            for items in product(ITEMS, repeat=size):
                places = [at for at in range(size) if not begins_a_term(items[:at + 1])]
                terms = sum([{"not": 0, "and": -1, "or": -1}.get(item, 1) for item in items])
                if places:
                    self.wrong(places[0], items)
                elif terms != 1:
                    self.wrong(size, items)
                else:
                    self.assertIsNone(check_term(items))

    def wrong(self, at, items):
        with self.assertRaises(InvalidTerm) as caught:
            check_term(items)
        self.assertEqual(caught.exception.at, at, items)

    def test_in_every_way(self):
        for term in [("A",), ("none",), ("all", "not"), ("A", "B", "and"), ("A", "B", "C", "or", "not", "and"), LONG]:
            self.gives(None, check_term, term)
        for at, value in [(0, ()), (0, ("not",)), (1, ("A", "and")), (2, ("A", "B")), (1, ("A", "b")), (0, ("AB",)),
                          (0, ("",)), (1, ("A", "And")), (1, ("A", "or", "x")), (0, ("a",)), (3, ("A", "B", "and", "or"))]:
            self.fails(InvalidTerm(at), check_term, value)

    def test_any_value(self):
        for value in odd_values():
            if value != "A" and not (isinstance(value, tuple) and value == ("A",)):
                self.fails(InvalidTerm(0), check_term, (value,))
                self.fails(InvalidTerm(1), check_term, ("A", value, "z"))
            if not isinstance(value, tuple):
                self.fails(InvalidTerm(-1), check_term, value)
        self.fails(InvalidTerm(-1), check_term, ["A"])

    def test_long_terms(self):
        self.assertEqual(len(LONG), 99)
        self.fails(Refused("long"), check_term, LONG + ("not",))
        self.fails(Refused("long"), check_term, ("A",) + ("not",) * 5000)
        self.fails(InvalidTerm(100), check_term, LONG + ("B",))
        self.fails(InvalidTerm(100), check_term, LONG + ("not", "no"))
        self.fails(InvalidTerm(99), check_term, ("A",) * 99)


class TextTests(Case):
    def test_example(self):
        self.gives(("A", "B", "none", "and", "not", "or"), read_term, "A or not (B and none)")
        self.gives("A or not (B and none)", show_term, ("A", "B", "none", "and", "not", "or"))

    def test_in_every_way(self):
        for text, term in [("A", ("A",)), (" ( A ) ", ("A",)), ("((none))", ("none",)), ("not not A", ("A", "not", "not")),
                           ("A and B and C", ("A", "B", "and", "C", "and")), ("A and(B and C)", ("A", "B", "C", "and", "and")),
                           ("A or B and C", ("A", "B", "C", "and", "or")), ("(A or B)and C", ("A", "B", "or", "C", "and")),
                           ("not A and B", ("A", "not", "B", "and")), ("not(A and B)", ("A", "B", "and", "not")),
                           ("A or B or C", ("A", "B", "or", "C", "or")), ("A and not B or all", ("A", "B", "not", "and", "all", "or")),
                           ("(not A)", ("A", "not")), ("not (not (A))", ("A", "not", "not"))]:
            self.gives(term, read_term, text)
        for term, text in [(("A",), "A"), (("A", "not", "not"), "not not A"), (("A", "B", "and", "C", "and"), "A and B and C"),
                           (("A", "B", "C", "and", "and"), "A and (B and C)"), (("A", "B", "or", "C", "or"), "A or B or C"),
                           (("A", "B", "C", "or", "or"), "A or (B or C)"), (("A", "B", "or", "C", "and"), "(A or B) and C"),
                           (("A", "B", "C", "or", "and"), "A and (B or C)"), (("A", "B", "and", "C", "or"), "A and B or C"),
                           (("A", "B", "C", "and", "or"), "A or B and C"), (("A", "B", "and", "not"), "not (A and B)"),
                           (("A", "not", "B", "not", "or"), "not A or not B"),
                           (("A", "B", "or", "C", "or", "D", "and", "not"), "not ((A or B or C) and D)")]:
            self.gives(text, show_term, term)

    def test_back_and_forth(self):
        for term in made_terms(1, 200, 20):
            self.assertEqual(read_term(show_term(term)), term)

    def test_fewest_brackets(self):
        for term in made_terms(2, 60, 4):
            tree = tree_of(term)
            fitting = [text for text in texts_of(tree) if tree_by_grammar(text) == tree]
            fewest = min([text.count("(") for text in fitting])
            shown = [text for text in fitting if text.count("(") == fewest]
            self.assertEqual(shown, [show_term(term)])
            for text in fitting:
                self.assertEqual(read_term(text), term)
                spaced = text.replace("(", " ( ").replace(")", "   )  ").replace(" ", "  ")
                self.assertEqual(read_term(spaced), term)

    def test_refused_places(self):
        for text, at in [("", 0), ("  ", 2), ("not", 3), ("(", 1), ("A and", 5), ("A or (B", 7), ("A B", 2), ("A not", 2), ("and", 0),
                         ("A)", 1), ("()", 1), ("A (B)", 2), ("(A) B", 4), ("AB", 0), ("a", 0), ("A And B", 2), ("A andB", 2),
                         ("A and and B", 6), ("A + B", 2), ("A\nand B", 1), ("nota", 0), ("not A, B", 5), ("A or\tB", 4),
                         ("(A or B))", 8), ("((A or B)", 9), ("none none", 5), ("not  ) A", 5), ("A1", 1), ("  none1", 6),
                         ("A or B.", 6), ("NONE", 0), ("all or all (", 11), ("A and ", 6), ("%", 0)]:
            self.fails(InvalidText(at), read_term, text)

    def test_places_by_trying(self):
        chance = random.Random(3)
        marks = ["A", "none", "not", "and", "or", "(", ")", "x", "+"]
        for _ in range(500):
            row = [chance.choice(marks) for _ in range(chance.randint(0, 7))]
            text, starts = "", []
            for mark in row:
                text += " " * chance.randint(1, 2)
                starts.append(len(text))
                text += mark
            bad = [at for at in range(len(row)) if not is_begun(row[:at + 1])]
            if bad:
                self.fails(InvalidText(starts[bad[0]]), read_term, text)
            elif is_begun(row + ["and"]) and row.count("(") == row.count(")"):
                self.assertEqual(tree_of(read_term(text)), tree_by_grammar(text))
            else:
                self.fails(InvalidText(len(text)), read_term, text)

    def test_no_string(self):
        for value in odd_values():
            if not isinstance(value, str):
                self.fails(InvalidText(-1), read_term, value)

    def test_long_texts(self):
        fifty = " and ".join(["A"] * 50)
        self.gives(("A",) + ("A", "and") * 49, read_term, fifty)
        self.fails(Refused("long"), read_term, "not " + fifty)
        self.fails(Refused("long"), read_term, fifty + " and A")
        self.fails(InvalidText(len(fifty) + 10), read_term, fifty + " and A and")
        self.fails(InvalidText(len(fifty) + 7), read_term, fifty + " and A x")
        self.gives(("A",), read_term, "(" * 30 + "A" + ")" * 30)
        self.gives(("A",) + ("not",) * 98, read_term, "not " * 98 + "A")
        self.fails(Refused("long"), read_term, "not " * 99 + "A")
        deep = "A and (" * 30 + "B" + ")" * 30
        self.gives(("A",) * 30 + ("B",) + ("and",) * 30, read_term, deep)
        self.assertEqual(show_term(read_term(deep)), "A and (" * 29 + "A and B" + ")" * 29)


def is_begun(row):
    """Whether marks are the beginning of the marks of a text of a term."""
    wanted, depth = True, 0
    for mark in row:
        if wanted and mark in ("A", "none"):
            wanted = False
        elif wanted and mark == "(":
            depth += 1
        elif not wanted and mark in ("and", "or"):
            wanted = True
        elif not wanted and mark == ")" and depth:
            depth -= 1
        elif not wanted or mark != "not":
            return False
    return True


def tree_by_grammar(text):
    """The term of a text as a tree, read by the words of point [31] from left to right."""
    marks = text.replace("(", " ( ").replace(")", " ) ").split()

    def chain(word, part):
        tree = part()
        while marks and marks[0] == word:
            marks.pop(0)
            tree = (word, (tree, part()))
        return tree

    def single():
        mark = marks.pop(0)
        if mark == "not":
            return ("not", (single(),))
        if mark == "(":
            tree = chain("or", lambda: chain("and", single))
            assert marks.pop(0) == ")"
            return tree
        return (mark, ())

    tree = chain("or", lambda: chain("and", single))
    assert not marks
    return tree


class ValueTests(Case):
    def test_values(self):
        chance = random.Random(4)
        for each in [ONE, TWO, BOW, UNLIKE, PENTAGON, star(3)] + made_houses(43, 4, 4):
            model, house = Model(each.rooms), House(each)
            for term in made_terms(5, 25):
                given = {letter: chance.choice(model.sayings) for letter in "ABC"}
                self.assertEqual(value_of(house, term, given), value_by_words(model, tree_of(term), given))
                ends = [tree_of(part_ending(term, at)) for at in range(len(term))]
                wanted = tuple([value_by_words(model, tree, given) for tree in ends])
                self.assertEqual(worked(house, term, given), wanted)
                self.assertEqual(value_of(house, pushed(term), given), wanted[-1])

    def test_in_every_way(self):
        house = House(BOW)
        given = {"A": ("a",), "B": ("d",), "C": ("c",)}
        self.gives(("a", "b"), value_of, house, ("A", "B", "or"), given)
        self.gives((("a",), ("d",), ("a", "b")), worked, house, ("A", "B", "or"), given)
        self.gives((), value_of, house, ("A", "B", "and"), given)
        self.gives(("b", "c"), value_of, house, ("A", "not"), given)
        self.gives(("a", "b", "c"), value_of, house, ("all",), {})
        self.gives((("a", "b", "c"), ()), worked, house, ("all", "not"), {})
        self.gives((), value_of, house, ("none",), given)
        self.gives(((), ("a", "b", "c")), worked, house, ("none", "not"), {"Z": ("a",)})

    def test_letters_without_a_saying(self):
        house = House(BOW)
        for term in [("A",), ("B", "A", "and"), ("B", "none", "and", "A", "not", "or"), ("none", "Z", "and")]:
            self.fails(Refused("letter"), value_of, house, term, {"B": ("a",)})
            self.fails(Refused("letter"), worked, house, term, {"B": ("a",), "a": ("a",)})
        self.fails(Refused("letter"), value_of, house, ("A",), {})

    def test_long_terms(self):
        for each in [BOW, HEXAGON]:
            given = {"A": (each.outcomes()[0],)}
            self.gives(given["A"], value_of, House(each), LONG, given)
            self.assertEqual(len(worked(House(each), LONG, given)), 99)
            self.gives(given["A"], value_of, House(each), ("A",) + ("not",) * 98, given)


def part_ending(term, at):
    """The term that ends at an item."""
    for start in range(at, -1, -1):
        try:
            check_term(term[start:at + 1])
        except InvalidTerm:
            continue
        return term[start:at + 1]
    raise AssertionError


class PushedTests(Case):
    def test_in_every_way(self):
        for term, wanted in [(("A",), ("A",)), (("A", "not"), ("A", "not")), (("A", "not", "not"), ("A",)),
                             (("none", "not"), ("all",)), (("all", "not"), ("none",)), (("none", "not", "not"), ("none",)),
                             (("A", "B", "and", "not"), ("A", "not", "B", "not", "or")),
                             (("A", "B", "or", "not"), ("A", "not", "B", "not", "and")),
                             (("A", "not", "B", "and", "not"), ("A", "B", "not", "or")),
                             (("A", "all", "B", "or", "and", "not", "not"), ("A", "all", "B", "or", "and"))]:
            self.gives(wanted, pushed, term)

    def test_by_the_words(self):
        def moved(tree, turn):
            word, parts = tree
            if word == "not":
                return moved(parts[0], not turn)
            if word in ("A", "B", "C"):
                return (word, "not") if turn else (word,)
            turned = {"none": "all", "all": "none", "and": "or", "or": "and"}[word] if turn else word
            return sum([moved(part, turn) for part in parts], ()) + (turned,)

        for term in made_terms(6, 300, 12):
            self.assertEqual(pushed(term), moved(tree_of(term), False))
            self.assertIsNone(check_term(pushed(term)))

    def test_long_terms(self):
        self.gives(LONG, pushed, LONG)
        # Turned, n letters make 3 n - 1 items.
        self.assertEqual(len(pushed(("A",) * 33 + ("and",) * 32 + ("not",))), 98)
        self.fails(Refused("long"), pushed, ("A",) * 34 + ("and",) * 33 + ("not",))
        self.fails(Refused("long"), pushed, ("A",) * 49 + ("or",) * 48 + ("not",))
        self.gives(("A",), pushed, ("A",) + ("not",) * 98)


if __name__ == "__main__":
    unittest.main()
