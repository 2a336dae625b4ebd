"""Books for the tests: small ones by name, and many made by a fixed rule."""

import random

from roomlooks.books import Book


def book(text):
    """The book of a text with a room in each line."""
    return Book(tuple([tuple(sorted(line.split())) for line in text.split("\n")]))


def row_of(many, size=3):
    """A book of rooms in a row, each sharing one outcome with the next one."""
    rooms, last, free = [], "a", list("bcdefghijklmnopqrstuvwxyz")
    for _ in range(many):
        room = [last] + [free.pop(0) for _ in range(size - 1)]
        rooms.append(tuple(sorted(room)))
        last = room[-1]
    return Book(tuple(rooms))


def ring_of(many, size=3):
    """A book of rooms in one ring."""
    names = list("abcdefghijklmnopqrstuvwxyz")
    rooms = []
    for at in range(many):
        own = names[many + at * (size - 2):many + (at + 1) * (size - 2)]
        rooms.append(tuple(sorted([names[at], names[(at + 1) % many]] + own)))
    return Book(tuple(rooms))


def pairs_book(many, pairs):
    """A book whose outcomes are each shared by the two rooms of a pair."""
    names = "abcdefghijklmnopqrstuvwxyz"
    return Book(tuple([tuple([names[k] for k, pair in enumerate(pairs) if room in pair]) for room in range(many)]))


def apart(many, size=3):
    """A book of rooms that share nothing."""
    names = "abcdefghijklmnopqrstuvwxyz"
    return Book(tuple([tuple(names[k * size:(k + 1) * size]) for k in range(many)]))


def star(many, size=3):
    """A book of rooms all of which share one outcome."""
    names = "bcdefghijklmnopqrstuvwxyz"
    step = size - 1
    return Book(tuple([("a",) + tuple(names[k * step:(k + 1) * step]) for k in range(many)]))


def plane(order, many):
    """The first rooms of a plane in which any two rooms share an outcome."""
    differences = {2: (0, 1, 3), 3: (0, 1, 3, 9), 4: (0, 1, 4, 14, 16)}[order]
    size = order * order + order + 1
    names = "abcdefghijklmnopqrstuvwxyz"
    rooms = [tuple(sorted([names[(step + k) % size] for step in differences])) for k in range(min(many, size))]
    return Book(tuple(rooms))


ONE = book("a b c")
FIVE = book("a b c d e")
TWO = book("a b c\nd e f")
BOW = book("a b c\nc d e")
LAMP = book("dark flash lamp\nbell dark hum")
UNLIKE = book("a b c\nc d e f\nf g h i j")
TRIANGLE = book("a b c\nc d e\na e f")
SQUARE = ring_of(4)
PENTAGON = ring_of(5)
HEXAGON = ring_of(6)
GRID = book("a b c\nd e f\ng h i\na d g\nb e h\nc f i")
TORN = book("a b x\nc d y\ne f z\na c e\nb d f")
K5 = pairs_book(5, [(a, b) for b in range(5) for a in range(b)])
K6 = pairs_book(6, [(a, b) for b in range(6) for a in range(b)])
FANO = plane(2, 7)
LINES = plane(3, 10)
FIVES = plane(4, 10)
EIGHT = apart(8)
PIECES = book("a b c\nd e f\nc g h\nf i j\nx y z")
TAILED = book("c d e\na b c\na e f\ne g h i")
MIXED = book("a b c d e\ne f g\ng h i j\na j k")

SMALL = [ONE, TWO, BOW, LAMP, UNLIKE, TRIANGLE, SQUARE, star(3), TAILED, PIECES]
MIDDLE = [FIVE, PENTAGON, HEXAGON, GRID, TORN, K5, FANO, MIXED, star(4, 4), row_of(4, 4), apart(2, 5)]
LARGE = [row_of(10), ring_of(10), star(10), K6, LINES, FIVES, EIGHT, apart(6, 4), apart(4, 5), ring_of(7)]


def made_books(seed, many, most_rooms=10):
    """Books made by chance, always the same ones for a seed."""
    chance = random.Random(seed)
    return [_made(chance, chance.randint(1, most_rooms), chance.randint(6, 24)) for _ in range(many)]


def _made(chance, most, outcomes):
    names = ["a", "b", "ab", "ba", "zz", "c", "d", "e", "abc", "f", "g", "h", "i", "j", "k", "l", "m",
             "n", "o", "p", "q", "r", "s", "t"][:outcomes]
    rooms = []
    for _ in range(200):
        room = tuple(sorted(chance.sample(names, chance.choice((3, 3, 3, 4, 4, 5)))))
        if len(rooms) < most and all([len(set(room) & set(other)) < 2 for other in rooms]):
            rooms.append(room)
    return Book(tuple(rooms))


def made_houses(seed, many, most_rooms=7):
    """Books without rings of three and four rooms, made by chance."""
    chance = random.Random(seed)
    found = []
    for _ in range(many):
        rooms = []
        for _ in range(most_rooms):
            room = _house_room(chance, rooms)
            if room is not None:
                rooms.append(room)
        found.append(Book(tuple(rooms)))
    return found


def _house_room(chance, rooms):
    from oracle import short_rings_of
    used = sorted(set([name for room in rooms for name in room]))
    names = [name for name in "abcdefghijklmnopqrstuvwx" if name not in used]
    for _ in range(20):
        size = chance.choice((3, 3, 4, 5))
        old = chance.sample(used, min(len(used), chance.choice((0, 1, 1, 2, 2))))
        new = chance.sample(names, min(len(names), size - len(old)))
        room = tuple(sorted(old + new))
        if len(room) < 3 or any([len(set(room) & set(other)) > 1 for other in rooms]):
            continue
        if not short_rings_of(tuple(rooms) + (room,)):
            return room
    return None
