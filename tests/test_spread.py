"""Triples that spread: the opening of chapter 8, points [43] to [47]."""

import random
import unittest
from itertools import combinations, permutations, product

from common import Case, Thing, odd_values
from oracle import Model, rings
from samples import BOW, EIGHT, FIVE, HEXAGON, ONE, PENTAGON, PIECES, TWO, UNLIKE, apart, book, made_houses, ring_of, row_of, star
from roomlooks.errors import InvalidNumber
from roomlooks.rings import shortest_ring
from roomlooks.spread import (always_spreading, and_or_from, broken_rows, count_triples, hubs, is_triple_reason, row_gap, row_sides,
                              some_broken, spreads, triple_reason)
from roomlooks.texts import read_book
from roomlooks.verdicts import House, court

ROW = row_of(3)
STAR = star(3)
FIVES = book("a b c x\nc d e\ne f g y z\ng h i\ni j a")
RING = book("a b c\nc d e\ne f g\ng h i\ni j a")
SMALL = [ONE, BOW, TWO, ROW, STAR, PENTAGON, book("a b c d\nd e f")]
HOUSES = SMALL + [HEXAGON, UNLIKE, PIECES, FIVES, FIVE, star(3, 4), apart(2, 4)] + made_houses(90, 8, 6)
MODELS = {}


def model_of(each):
    return MODELS.setdefault(each.rooms, Model(each.rooms))


def sides(model, triple, row):
    """The sides of a row, by the words."""
    x = triple[row % 3]
    y, z = [saying for at, saying in enumerate(triple) if at != row % 3]
    if row < 3:
        return (model.meet(x, model.join(y, z)), model.join(model.meet(x, y), model.meet(x, z)))
    return (model.join(x, model.meet(y, z)), model.meet(model.join(x, y), model.join(x, z)))


def broken(model, triple):
    return tuple([row for row in range(6) if len(set(sides(model, triple, row))) > 1])


def hubs_of(model, triple):
    return tuple([at for at in range(3) if all([model.together(triple[at], other) for other in triple])])


def open_doors(model, low, high, other):
    less = model.meet(high, model.opposite(low))
    doors = [bool(model.together(less, other)), not model.together(low, model.meet(high, other)),
             not model.together(high, model.join(low, other))]
    return [door for door in range(3) if doors[door]]


def ring_triples(model, ring):
    """The triples of a ring of five or six rooms, as lots, by the words."""
    many, q = len(ring), [name for _, name in ring]
    if many == 6:
        return [{(q[0],), (q[2],), (q[4],)}, {(q[1],), (q[3],), (q[5],)}]
    found = []
    for i in range(5):
        room = [number for number, _ in ring if {q[i], q[(i + 1) % 5]} <= set(model.rooms[number])][0]
        rest = model.saying(room, tuple([name for name in model.rooms[room] if name not in (q[i], q[(i + 1) % 5])]))
        found.append({(q[i],), (q[(i + 1) % 5],), (q[(i + 3) % 5],)})
        found.append({(q[(i + 2) % 5],), (q[(i + 4) % 5],), rest})
    return found


def is_reason(each, model, triple, value):
    """Whether a value made of the right kinds is a reason of a triple, by the words."""
    if value[0] == "hub":
        return value[1] in hubs_of(model, triple)
    if value[0] == "step":
        _, low, high, door = value
        if low == high or not model.implies(triple[low], triple[high]):
            return False
        return door in open_doors(model, triple[low], triple[high], triple[3 - low - high])
    if value[0] == "ring":
        if value[1] not in rings(each.rooms, 5) + rings(each.rooms, 6):
            return False
        sayings = [model.opposite(saying) for saying in triple] if value[2] else triple
        return len(set(sayings)) == 3 and set(sayings) in ring_triples(model, value[1])
    first, second = sides(model, triple, value[1])
    return model.implies((value[2],), first) != model.implies((value[2],), second)


def candidates(each):
    """All values of the four kinds, true or not."""
    found = [("hub", at) for at in range(3)] + [("step", *places) for places in product(range(3), repeat=3)]
    found += [("ring", ring, turned) for ring in rings(each.rooms, 5) + rings(each.rooms, 6) for turned in (False, True)]
    return found + [("row", row, name) for row in range(6) for name in each.outcomes()]


def made_triples(model, chance, many):
    return [tuple([chance.choice(model.sayings) for _ in range(3)]) for _ in range(many)]


class RowTests(Case):
    def test_sides_and_gaps(self):
        chance = random.Random(1)
        for each in HOUSES:
            model, house = model_of(each), House(each)
            for triple in made_triples(model, chance, 25):
                turned = [model.opposite(saying) for saying in triple]
                for row in range(6):
                    first, second = sides(model, triple, row)
                    self.assertEqual(row_sides(house, *triple, row), (first, second))
                    low, high = (second, first) if row < 3 else (first, second)
                    self.assertTrue(model.implies(low, high))
                    gap = model.meet(high, model.opposite(low))
                    self.assertEqual(row_gap(house, *triple, row), gap)
                    self.assertEqual(gap == (), first == second)
                    if row < 3:
                        x, others = triple[row], [saying for at, saying in enumerate(triple) if at != row]
                        self.assertTrue(model.implies(gap, x))
                        self.assertEqual([model.meet(gap, other) for other in others], [(), ()])
                        self.assertEqual(row_gap(house, *turned, row + 3), gap)
                self.assertEqual(broken_rows(house, *triple), broken(model, triple))
                self.assertIs(spreads(house, *triple), broken(model, triple) == ())

    def test_in_every_way(self):
        house = House(BOW)
        triple = (("a",), ("d",), ("c", "d"))
        for row in range(6):
            self.gives(row_sides(house, *triple, row), row_sides, house, *triple, row)
            self.gives(row_gap(house, *triple, row), row_gap, house, *triple, row)
        self.gives(broken_rows(house, *triple), broken_rows, house, *triple)
        self.gives(spreads(house, *triple), spreads, house, *triple)
        self.gives((), broken_rows, House(ONE), ("a",), ("b",), ("a", "c"))
        self.gives(True, spreads, House(ONE), ("a",), ("b",), ("a", "c"))

    def test_wrong_rows(self):
        for row in [-1, 6, 7, 10 ** 30, -10 ** 30]:
            for each in (ONE, BOW):
                self.fails(InvalidNumber("row"), row_sides, House(each), ("a",), ("b",), (), row)
                self.fails(InvalidNumber("row"), row_gap, House(each), ("a",), ("b",), (), row)


class HubTests(Case):
    def test_hubs(self):
        chance = random.Random(2)
        for each in HOUSES:
            model, house = model_of(each), House(each)
            for triple in made_triples(model, chance, 40):
                found = hubs(house, *triple)
                self.assertEqual(found, hubs_of(model, triple))
                if found:
                    self.assertEqual(broken(model, triple), ())

    def test_some_broken(self):
        for each in HOUSES + [row_of(10), EIGHT, ring_of(10), star(10)]:
            house, model = House(each), model_of(each)
            found = some_broken(house)
            if len(each.rooms) == 1:
                self.assertIsNone(found)
                continue
            pairs = [(p, q) for p, q in combinations(each.outcomes(), 2) if each.room_of_two(p, q) is None]
            p, q = pairs[0]
            self.gives(((p,), (q,), model.opposite((q,))), some_broken, house)
            self.assertNotEqual(broken(model, found), ())
            self.assertFalse(spreads(house, *found))

    def test_always_spreading(self):
        for each in SMALL:
            model, house = model_of(each), House(each)
            wanted = [s for s in model.sayings if all([broken(model, (s, a, b)) == () for a, b in product(model.sayings, repeat=2)])]
            self.gives(tuple(wanted), always_spreading, house)
            self.assertEqual(wanted, [s for s in model.sayings if all([model.together(s, other) for other in model.sayings])])

    def test_in_every_way(self):
        self.gives((0, 1, 2), hubs, House(ONE), ("a",), ("b",), ("c",))
        self.gives((1,), hubs, House(BOW), ("a",), ("c",), ("d",))
        self.gives(None, some_broken, House(ONE))
        self.gives((("a",), ("d",), ("a", "b")), lambda house: some_broken(house)[:2] + (("a", "b"),), House(BOW))
        self.gives(((), ("c",), ("a", "b"), ("a", "b", "c")), always_spreading, House(BOW))


class ReasonTests(Case):
    def wanted(self, each, model, triple):
        """The reason that `triple_reason` returns, by the words."""
        found = hubs_of(model, triple)
        if found:
            return ("hub", found[0])
        for low, high in permutations(range(3), 2):
            if model.implies(triple[low], triple[high]):
                doors = open_doors(model, triple[low], triple[high], triple[3 - low - high])
                if doors:
                    self.assertEqual(len(doors), 1)
                    return ("step", low, high, doors[0])
        fitting = [value for value in candidates(each) if value[0] == "ring" and is_reason(each, model, triple, value)]
        if fitting:
            self.assertEqual(len(fitting), 1)
            return fitting[0]
        return [value for value in candidates(each) if value[0] == "row" and is_reason(each, model, triple, value)][0]

    def test_all_triples(self):
        for each in [ONE, BOW, TWO, STAR]:
            model, house = model_of(each), House(each)
            for triple in product(model.sayings, repeat=3):
                wanted = self.wanted(each, model, triple)
                self.assertEqual(triple_reason(house, *triple), wanted)
                self.assertEqual(wanted[0] == "row", broken(model, triple) != ())

    def test_made_triples(self):
        chance, words = random.Random(3), []
        for each in HOUSES:
            model, house = model_of(each), House(each)
            for triple in made_triples(model, chance, 60) + self.triples_of_rings(each, model, chance):
                wanted = self.wanted(each, model, triple)
                words.append(wanted[0])
                self.assertEqual(triple_reason(house, *triple), wanted)
                self.assertIs(is_triple_reason(house, *triple, wanted), True)
                self.assertEqual(wanted[0] == "row", broken(model, triple) != ())
        for word in ("hub", "step", "ring", "row"):
            self.assertGreater(words.count(word), 25)

    def triples_of_rings(self, each, model, chance):
        """Triples of rings and their opposites, in any sequence."""
        found = []
        for ring in (rings(each.rooms, 5) + rings(each.rooms, 6))[:2]:
            for lot in ring_triples(model, ring):
                row = sorted(lot)
                chance.shuffle(row)
                found += [tuple(row), tuple([model.opposite(saying) for saying in row])]
        return found

    def test_every_value(self):
        chance = random.Random(4)
        for each in [ONE, BOW, ROW, PENTAGON, HEXAGON, FIVES, STAR]:
            model, house = model_of(each), House(each)
            for triple in made_triples(model, chance, 10) + self.triples_of_rings(each, model, chance)[:6]:
                for value in candidates(each):
                    self.assertIs(is_triple_reason(house, *triple, value), is_reason(each, model, triple, value))

    def test_each_door(self):
        doors = []
        for each in [BOW, ROW, TWO, PENTAGON]:
            model, house = model_of(each), House(each)
            for low in model.sayings:
                for high in model.up(low)[:6]:
                    for other in model.sayings[::2]:
                        found = triple_reason(house, low, high, other)
                        if found[0] == "step":
                            doors.append(found[3])
        self.assertEqual(set(doors), {0, 1, 2})

    def test_example(self):
        house = court(read_book("a b c\nc d e\ne f g\ng h i\ni j a"))
        self.gives(("ring", ((0, "c"), (1, "e"), (2, "g"), (3, "i"), (4, "a")), False), triple_reason, house, ("c",), ("e",), ("i",))
        self.gives(("row", 0, "a"), triple_reason, house, ("a",), ("d",), ("e",))
        self.gives((660, 160, 20, 700), count_triples, house)

    def test_in_every_way(self):
        chance = random.Random(5)
        for each in [ONE, BOW, PENTAGON, HEXAGON]:
            model, house = model_of(each), House(each)
            for triple in made_triples(model, chance, 4) + self.triples_of_rings(each, model, chance)[:3]:
                found = triple_reason(house, *triple)
                self.gives(found, triple_reason, house, *triple)
                self.gives(True, is_triple_reason, house, *triple, found)

    def test_spoilt(self):
        ring = rings(RING.rooms, 5)[0]
        house, model = House(RING), model_of(RING)
        q = [name for _, name in ring]
        triple = ((q[0],), (q[1],), (q[3],))
        self.gives(True, is_triple_reason, house, *triple, ("ring", ring, False))
        for value in [("ring", ring, True), ("ring", ring, 0), ("ring", ring, None), ("ring", ring), ("ring", ring, False, 0), ["ring", ring, False],
                      ("ring", ring[::-1], False), ("ring", ring[1:] + ring[:1], False), ("ring", list(ring), False), ("ring", (), False),
                      ("rings", ring, False), ("hub", ring, False), ("row", ring, False), ("ring", None, False)]:
            self.gives(False, is_triple_reason, house, *triple, value)
        turned = [model.opposite(saying) for saying in triple]
        self.gives(True, is_triple_reason, house, *turned, ("ring", ring, True))
        self.gives(False, is_triple_reason, house, *turned, ("ring", ring, False))
        self.gives(False, is_triple_reason, house, *turned, ("ring", ring, 1))
        good = triple_reason(house, ("a",), ("d",), ("e",))
        for value in [("row", True, "a"), ("row", 0.0, "a"), ("row", -1, "a"), ("row", 6, "a"), ("row", 0, "z"), ("row", 0, ("a",)), ("row", 0),
                      ("row", 0, None), ("row", False, good[2]), good + (0,), list(good), ("hub",) + good[1:], ("row", 0, "a", "a")]:
            self.gives(False, is_triple_reason, house, ("a",), ("d",), ("e",), value)
        self.gives(True, is_triple_reason, house, ("a",), ("b",), ("c",), ("hub", 1))
        for value in [("hub", True), ("hub", 3), ("hub", -1), ("hub", "1"), ("hub",), ("hub", 1, 1), ("step", 1), ["hub", 1], ("hub", 1.0), ("hub", None)]:
            self.gives(False, is_triple_reason, house, ("a",), ("b",), ("c",), value)
        self.gives(("step", 0, 1, 1), triple_reason, house, ("a",), ("a", "b"), ("e", "f"))
        for value in [("step", 0, 1, True), ("step", False, 1, 1), ("step", 0, 1), ("step", 1, 0, 1), ("step", 0, 0, 1), ("step", 0, 1, 0), ("step", 0, 1, 2),
                      ("step", 0, 1, None), ("hub", 0, 1, 1), ("", 0, 1, 1), ("ring", 0, 1, 1), ("step", 0, 2, 1), ("step", 0, 1, 1, 1), ("step", 0, 3, 1), ("step", 3, 0, 1), ("step", 0, 1.0, 1)]:
            self.gives(False, is_triple_reason, house, ("a",), ("a", "b"), ("e", "f"), value)

    def test_longer_rings(self):
        # Rings of seven rooms and more have no triples.
        for many in (7, 8, 10):
            each = ring_of(many)
            ring, house = rings(each.rooms, many)[0] if many < 9 else shortest_ring(each), House(each)
            for lot in combinations([name for _, name in ring], 3):
                for turned in (False, True):
                    self.assertIs(is_triple_reason(house, *[(name,) for name in lot], ("ring", ring, turned)), False)

    def test_any_value(self):
        house = House(RING)
        self.gives(False, is_triple_reason, house, ("a",), ("b",), ("c",), ())
        for triple in [(("a",), ("b",), ("c",)), (("a",), ("d",), ("e",)), (("c",), ("e",), ("i",)), (("a",), ("a", "b"), ("e", "f"))]:
            for value in odd_values() + [Thing()]:
                self.gives(False, is_triple_reason, house, *triple, value)
                self.gives(False, is_triple_reason, house, *triple, (value, 0))
                for word in ("hub", "step", "ring", "row"):
                    self.gives(False, is_triple_reason, house, *triple, (word, value))
                    self.gives(False, is_triple_reason, house, *triple, (word, value, False))
                    self.gives(False, is_triple_reason, house, *triple, (word, 0, value, 0))
                    self.gives(False, is_triple_reason, house, *triple, (word, 0, value))
                    self.gives(False, is_triple_reason, house, *triple, (word, 0, 1, value))


class CountTests(Case):
    def test_counts(self):
        for each in [ONE, BOW, TWO, STAR, ROW, PENTAGON, FIVE, book("a b c d\nd e f")] + made_houses(91, 4, 3):
            model, house = model_of(each), House(each)
            if len(model.sayings) > 34:
                continue
            counts = [0, 0, 0, 0]
            for triple in combinations(model.sayings, 3):
                reason = triple_reason(house, *triple)
                counts[("hub", "step", "ring", "row").index(reason[0])] += 1
            self.gives(tuple(counts), count_triples, house)

    def test_larger_houses(self):
        for each in HOUSES + [row_of(10), ring_of(10), star(10), EIGHT, apart(4, 5), row_of(4, 5)]:
            model = model_of(each)
            found = count_triples(House(each))
            many = len(model.sayings)
            self.assertEqual(sum(found), many * (many - 1) * (many - 2) // 6)
            if many < 75:
                near = {a: [bool(model.together(a, b)) for b in model.sayings] for a in model.sayings}
                hubs_ = sum([near[a][j] + near[a][k] + near[b][k] > 1 for (i, a), (j, b), (k, c) in combinations(enumerate(model.sayings), 3)])
                self.assertEqual(found[0], hubs_)

    def test_rings(self):
        for each in [PENTAGON, HEXAGON, FIVES, ring_of(7)]:
            wanted = 20 * len(rings(each.rooms, 5)) + 4 * len(rings(each.rooms, 6))
            self.assertEqual(count_triples(House(each))[2], wanted)


class MadeTests(Case):
    def closed(self, model, items):
        """All that can be worked out, by the words."""
        found = set(items)
        while True:
            more = {worked for a in found for b in found for worked in (model.join(a, b), model.meet(a, b))} - found
            if not more:
                return tuple(sorted(found, key=lambda lot: (len(lot), lot)))
            found |= more

    def test_and_or_from(self):
        chance = random.Random(6)
        for each in HOUSES:
            model, house = model_of(each), House(each)
            for many in (0, 1, 2, 3, 3, 4):
                items = tuple([chance.choice(model.sayings) for _ in range(many)])
                self.gives(self.closed(model, items), and_or_from, house, items)

    def test_how_many(self):
        chance = random.Random(7)
        for each in HOUSES:
            model, house = model_of(each), House(each)
            triples = made_triples(model, chance, 30) + ReasonTests.triples_of_rings(self, each, model, chance)
            for triple in [triple for triple in triples if len(set(triple)) == 3]:
                reason, many = triple_reason(house, *triple), len(and_or_from(house, triple))
                if reason[0] == "hub":
                    self.assertLessEqual(many, 13)
                elif reason[0] == "step":
                    self.assertEqual(many, 6)
                elif reason[0] == "ring":
                    self.assertEqual(many, 8)

    def test_spreads_exactly_if_all_that_is_made_spreads(self):
        chance = random.Random(8)
        for each in [BOW, ROW, PENTAGON, STAR]:
            model, house = model_of(each), House(each)
            for triple in made_triples(model, chance, 12):
                made = and_or_from(house, triple)
                if len(made) < 14:
                    wanted = all([spreads(house, *other) for other in product(made, repeat=3)])
                    self.assertIs(spreads(house, *triple), wanted)

    def test_in_every_way(self):
        house = House(BOW)
        self.gives((), and_or_from, house, ())
        self.gives((("a",),), and_or_from, house, (("a",), ("a",)))
        self.gives(((), ("a",), ("d",), ("a", "b")), and_or_from, house, (("a",), ("d",)))
        self.gives(((), ("a",), ("b",), ("a", "b")), and_or_from, house, (("b",), ("a",)))
        for each in [row_of(4, 5), apart(4, 5)]:
            found = and_or_from(House(each), tuple(model_of(each).sayings))
            self.assertEqual(found, tuple(model_of(each).sayings))


if __name__ == "__main__":
    unittest.main()
