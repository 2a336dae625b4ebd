"""Texts of books: point [11]."""

import random
import unittest
from itertools import combinations

from common import Case, odd_values
from samples import BOW, EIGHT, FANO, K5, LARGE, LINES, MIDDLE, ONE, SMALL, made_books
from roomlooks.books import Book
from roomlooks.errors import InvalidText, RoomError
from roomlooks.texts import read_book, show_book

LETTERS = "abcdefghijklmnopqrstuvwxyz"


def book_of(rooms):
    try:
        return Book(tuple([tuple(sorted(room)) for room in rooms]))
    except RoomError:
        return None


def is_text(text):
    return all([sign in LETTERS + " \n" for sign in text]) and book_of([line.split() for line in text.split("\n")])


def is_begun(text):
    """Whether some text of a book begins with a text, by trying names for the last line."""
    if not all([sign in LETTERS + " \n" for sign in text]):
        return False
    rooms = [line.split() for line in text.split("\n")[:-1]]
    line = text.split("\n")[-1]
    part = "" if line == "" or line.endswith(" ") else line.split(" ")[-1]
    names = line.split()[:-1] if part else line.split()
    if rooms and book_of(rooms) is None:
        return False
    used = sorted(set([name for room in rooms for name in room]))
    new = [name for name in ("zzzza", "zzzzb", "zzzzc") if name not in names]
    firsts = [None]
    if part:
        longer = [part + more for more in [""] + list(LETTERS)]
        firsts = [n for n in used if n.startswith(part)] + [n for n in longer if n not in used + names][:1]
    for first in firsts:
        begun = names + ([first] if first else [])
        for missing in combinations(used + new, max(0, 3 - len(begun))):
            if book_of(rooms + [begun + list(missing)]) is not None:
                return True
    return False


def refused_at(text):
    for at in range(len(text)):
        if not is_begun(text[:at + 1]):
            return at
    return len(text)


def shuffled(each, chance):
    """A text of a book with names in any order and blanks at all places where they may stand."""
    lines = []
    for room in each.rooms:
        names = chance.sample(room, len(room))
        blanks = [" " * chance.randint(0, 2)] + [" " * chance.randint(1, 3) for _ in names[1:]]
        line = "".join([blank + name for blank, name in zip(blanks, names)])
        lines.append(line + " " * chance.randint(0, 2))
    return "\n".join(lines)


class ReadTests(Case):
    def test_example(self):
        self.gives(Book((("a", "b", "c"), ("c", "d", "e"))), read_book, " c b  a\nd c e")
        self.gives("a b c\nc d e", show_book, read_book(" c b  a\nd c e"))
        self.fails(InvalidText(11), read_book, "a b c\nb d a e")

    def test_texts_of_books(self):
        chance = random.Random(1)
        for each in SMALL + MIDDLE + LARGE + made_books(35, 30):
            self.assertEqual(read_book(show_book(each)), each)
            for _ in range(3):
                self.assertEqual(read_book(shuffled(each, chance)), each)

    def test_in_every_way(self):
        for each in [ONE, BOW, FANO, EIGHT, LINES]:
            self.gives(each, read_book, show_book(each))
            self.gives(each, read_book, " " + show_book(each).replace(" ", "   ").replace("\n", "  \n ") + "    ")
            self.assertNotIn("  ", show_book(each))
        self.gives("a b c", show_book, ONE)
        self.gives("a b c\nc d e", show_book, BOW)
        self.gives(Book((("ab", "abcde", "z"),)), read_book, "z ab abcde")

    def test_no_string(self):
        for value in odd_values():
            if not isinstance(value, str):
                self.fails(InvalidText(-1), read_book, value)

    def test_too_short(self):
        for text in ["", " ", "   ", "a", "a ", "ab b", "a b ", "a b c\n", "a b c\n ", "a b c\nd", "a b c\nd e ", "a b c\na b",
                     "a b a", "a b c a", "a b c\nd e a\nb", "abcd abcde abcd"]:
            self.fails(InvalidText(len(text)), read_book, text)

    def test_refused_places(self):
        wrong = [("A", 0), ("\n", 0), (" \n", 1), ("a\n", 1), ("a b\n", 3), ("a b \n", 4), ("a b c\n\n", 6), ("abcdef", 5),
                 ("a b abcdef g", 9), ("a a b", 3), ("a b a\n", 5), ("a b a ", 5), ("abcde abcde", 10), ("a b c.", 5),
                 ("a b c d e f", 10), ("a b c d e  f", 11), ("a b c d e \nf", 12), ("a b c\nd e f\n\n", 12), ("a\tb c", 1),
                 ("a b c\na b ", 9), ("a b c\na b c", 9), ("a b c\nd b  a ", 12), ("a b c\nd b a\n", 11),
                 ("a b c\nabcde a b\n", 15), ("a b c\nd d", 9), ("a1 b c", 1), ("a b c\n-", 6), ("a b c\r\n", 5),
                 ("abcde b c\nabcde f b ", 19), ("abcde b c\nf b abcde", 18)]
        for text, at in wrong:
            if at < len(text):
                self.assertEqual(refused_at(text), at, text)
                self.fails(InvalidText(at), read_book, text)
            self.fails(InvalidText(refused_at(text)), read_book, text)

    def test_names_that_may_still_grow(self):
        # A name that would be refused may go on to another one; a name of five letters may not.
        self.fails(InvalidText(9), read_book, "a b c\na b")
        self.fails(InvalidText(9), read_book, "a b c\na b\n")
        self.gives(Book((("a", "b", "c"), ("a", "ba", "bb"))), read_book, "a b c\na ba bb")
        self.fails(InvalidText(20), read_book, "aaaaa b c\nb d aaaa b")
        self.fails(InvalidText(18), read_book, "aaaaa b c\nb d aaaaa")
        self.fails(InvalidText(17), read_book, "aaaaa b c\naaaaa b y ")
        # A name of the book does not stand twice in a line.
        self.fails(InvalidText(22), read_book, "abcde b c\nabcde f abcde")
        self.assertEqual(refused_at("abcde b c\nabcde f abcde g"), 22)

    def test_full_of_outcomes(self):
        # With 24 outcomes no new name can begin, and a name of the book must fit into the room.
        text = show_book(EIGHT)
        names = EIGHT.outcomes()
        self.fails(InvalidText(len(text) + 1), read_book, text + "\nz")
        self.fails(InvalidText(len(text) + 2), read_book, text + "\naz")
        self.fails(InvalidText(len(text) + 3), read_book, text + "\na b")
        self.fails(InvalidText(len(text) + 4), read_book, text + "\na d")
        self.gives(Book(EIGHT.rooms + (("a", "d", "g"),)), read_book, text + "\ng a d")
        self.assertEqual(len(names), 24)
        fuller = "\n".join([show_book(EIGHT), "a d g", "b e h"])
        self.fails(InvalidText(len(fuller)), read_book, fuller + "\n")
        many = "a b c d e\nf g h i j\nk l m n o\np q r s t\nu v w x y"
        self.fails(InvalidText(refused_at(many)), read_book, many)
        self.assertEqual(refused_at(many), len(many) - 1)

    def test_names_of_the_book_that_begin_so(self):
        names = ["aaa" + letter for letter in LETTERS[:24]]
        text = "\n".join([" ".join(names[k:k + 3]) for k in range(0, 24, 3)])
        for more in ["\naaa", "\naaaa", "\naaab aaae a", "\naaab aaae aaag", "\naaaz", "\naaaa aaab", "\naaaa aaa", "\nab",
                     "\naaaaa", "\naaad aaaa aaaj", "\naaad aaaa aaaj ", "\naaad aaaa aaaj aaac"]:
            self.assert_place(text + more)

    def assert_place(self, text):
        if is_text(text):
            self.assertEqual(read_book(text), is_text(text))
        else:
            with self.assertRaises(InvalidText) as caught:
                read_book(text)
            self.assertEqual(caught.exception.at, refused_at(text), text)

    def test_texts_made_by_chance(self):
        chance = random.Random(2)
        for _ in range(250):
            signs = chance.choice(["ab \n", "abc  ", "abcdefgh   \n", "aabb \n.", "abcdefghij      \n\n"])
            self.assert_place("".join([chance.choice(signs) for _ in range(chance.randint(0, 30))]))

    def test_texts_changed_by_chance(self):
        chance = random.Random(3)
        for each in SMALL + made_books(36, 30, 9) + [EIGHT, K5]:
            for _ in range(5):
                text = shuffled(each, chance)
                at = chance.randrange(len(text))
                changed = chance.choice(["", text[at] + text[at], " ", "\n", "a", "zzzz", "b c", "A"])
                self.assert_place(text[:at] + changed + text[at + 1:])


if __name__ == "__main__":
    unittest.main()
