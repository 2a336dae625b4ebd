"""What sayings imply, and chains: points [17] to [19]."""

import unittest

from common import Case, odd_values
from oracle import Model
from samples import BOW, FIVE, FIVES, LAMP, LARGE, MIDDLE, ONE, SMALL, TAILED, TRIANGLE, TWO, UNLIKE, apart, made_books, star
from roomlooks.books import Book
from roomlooks.errors import InvalidSaying, Refused
from roomlooks.orders import (above, below, between, chain_lengths, chain_room, chain_through, chains, count_chains,
                              count_implied, implied, implying, longest_chain, shortest_chain)
from roomlooks.sayings import all_sayings, whole
from test_sayings import wrong_sayings

BOOKS = SMALL + MIDDLE + made_books(9, 15)


def just_above(model, saying):
    later = [other for other in model.up(saying) if other != saying]
    return [one for one in later if not any([other != one and model.implies(other, one) for other in later])]


def all_chains(model, one, other, steps):
    """All chains by the words of point [19], in order."""
    if one == other:
        return [(one,)]
    found = []
    for step in steps[one]:
        if model.implies(step, other):
            found.extend([(one,) + chain for chain in all_chains(model, step, other, steps)])
    return found


class ImpliedTests(Case):
    def test_against_the_words(self):
        for each in BOOKS:
            model = Model(each.rooms)
            pairs = 0
            for saying in model.sayings:
                self.assertEqual(implied(each, saying), tuple(model.up(saying)))
                self.assertEqual(implying(each, saying), tuple(model.down(saying)))
                pairs += len(model.up(saying))
            self.assertEqual(count_implied(each), pairs)

    def test_large_books(self):
        for each in LARGE:
            pairs = sum([len(implied(each, saying)) for saying in all_sayings(each)])
            self.assertEqual(count_implied(each), pairs)
            self.assertEqual(implied(each, ()), all_sayings(each))
            self.assertEqual(implying(each, whole(each)), all_sayings(each))

    def test_just_above(self):
        for each in SMALL + MIDDLE[:4] + made_books(10, 8):
            model = Model(each.rooms)
            tops = {saying: just_above(model, saying) for saying in model.sayings}
            for saying in model.sayings:
                self.assertEqual(above(each, saying), tuple(tops[saying]))
                self.assertEqual(below(each, saying), tuple([low for low in tops if saying in tops[low]]))

    def test_between(self):
        for each in [ONE, BOW, TRIANGLE, TAILED]:
            model = Model(each.rooms)
            for one in model.sayings:
                for other in model.sayings:
                    wanted = [s for s in model.up(one) if model.implies(s, other)]
                    self.assertEqual(between(each, one, other), tuple(wanted))
                    self.assertEqual(wanted == [], not model.implies(one, other))

    def test_in_every_way(self):
        self.gives((("bell", "dark"), ("dark", "flash"), ("dark", "hum"), ("dark", "lamp")), above, LAMP, ("dark",))
        self.gives((("bell",), ("flash",), ("hum",), ("lamp",)), below, LAMP, ("flash", "lamp"))
        self.gives((), above, LAMP, LAMP.rooms[0])
        self.gives((), below, LAMP, ())
        self.gives((("a",), ("a", "b"), ("a", "c"), ("a", "b", "c")), implied, BOW, ("a",))
        self.gives(((), ("a",), ("b",), ("d",), ("e",), ("a", "b")), implying, BOW, ("a", "b"))
        self.gives((("a",), ("a", "b")), between, BOW, ("a",), ("a", "b"))
        self.gives((), between, BOW, ("a", "b"), ("a",))
        self.gives((("c",),), between, BOW, ("c",), ("c",))
        self.gives(3 ** 3, count_implied, ONE)
        self.gives(3 ** 5, count_implied, FIVE)
        self.gives(2 * 27 - 3 - 6, count_implied, BOW)
        self.gives(10 * 27 - 27 - 54, count_implied, star(10))

    def test_wrong_sayings(self):
        for value, at in wrong_sayings(BOW):
            for function in [implied, implying, above, below]:
                self.fails(InvalidSaying(at), function, BOW, value)
            for function in [between, count_chains, chains, chain_lengths, longest_chain, shortest_chain]:
                self.fails(InvalidSaying(at), function, BOW, value, ())
                self.fails(InvalidSaying(at), function, BOW, (), value)
                self.fails(InvalidSaying(at), function, BOW, value, ("b", "a"))
                self.fails(InvalidSaying(1), function, BOW, ("b", "a"), value)
            for function in [chain_room, chain_through]:
                self.fails(InvalidSaying(at), function, BOW, (value,))
                self.fails(InvalidSaying(at), function, BOW, (("a", "b"), ("a",), value, None))
                self.fails(InvalidSaying(at), function, BOW, ((), value, ("b", "a")))
            self.fails(InvalidSaying(at), chains, BOW, value, (), most=0)


class ChainTests(Case):
    def test_all_chains(self):
        for each in SMALL + made_books(11, 6, 4):
            model = Model(each.rooms)
            steps = {saying: just_above(model, saying) for saying in model.sayings}
            sayings = model.sayings
            for one in sayings[:: 1 + len(sayings) // 20] + [()]:
                for other in sayings[:: 1 + len(sayings) // 20] + [model.all]:
                    found = all_chains(model, one, other, steps) if model.implies(one, other) else []
                    self.check_chains(each, one, other, tuple(found))

    def check_chains(self, each, one, other, found):
        lengths = [len(chain) - 1 for chain in found]
        self.assertEqual(count_chains(each, one, other), len(found))
        self.assertEqual(chain_lengths(each, one, other), tuple(sorted(set(lengths))))
        self.assertEqual(chains(each, one, other, most=len(found)), found)
        longest = [chain for chain in found if len(chain) == max(lengths) + 1]
        shortest = [chain for chain in found if len(chain) == min(lengths) + 1]
        self.assertEqual(longest_chain(each, one, other), longest[0] if found else None)
        self.assertEqual(shortest_chain(each, one, other), shortest[0] if found else None)
        if found:
            with self.assertRaises(Refused):
                chains(each, one, other, most=len(found) - 1)

    def test_in_every_way(self):
        self.gives(12, count_chains, LAMP, (), ("dark", "flash", "lamp"))
        self.gives(((("c",),),), chains, BOW, ("c",), ("c",))
        self.gives((((), ("c",)),), chains, BOW, (), ("c",))
        self.gives((), chains, BOW, ("a",), ("d",))
        self.gives(0, count_chains, BOW, ("a",), ("d",))
        self.gives((), chain_lengths, BOW, ("a",), ("d",))
        self.gives(None, longest_chain, BOW, ("a",), ("d",))
        self.gives(None, shortest_chain, BOW, ("a",), ("d",))
        self.gives(1, count_chains, BOW, ("a", "b"), ("a", "b", "c"))
        self.gives((3, 4, 5), chain_lengths, UNLIKE, (), ("a", "b", "c"))
        self.gives((0,), chain_lengths, UNLIKE, ("a",), ("a",))
        self.gives(((), ("f",), ("f", "g"), ("f", "g", "h"), ("f", "g", "h", "i"), ("a", "b", "c")),
                   longest_chain, UNLIKE, (), ("a", "b", "c"))
        self.gives(((), ("a",), ("a", "b"), ("a", "b", "c")), shortest_chain, UNLIKE, (), ("a", "b", "c"))

    def test_too_many(self):
        each = apart(4, 5)
        self.gives(480, count_chains, each, (), whole(each))
        self.assertEqual(len(chains(each, (), whole(each))), 480)
        more = apart(2, 5)
        self.gives(240, count_chains, more, (), whole(more))
        large = made_large()
        self.assertEqual(count_chains(large, (), whole(large)), 720)
        self.fails(Refused("wide"), chains, large, (), whole(large))
        self.assertEqual(len(chains(large, (), whole(large), most=720)), 720)
        self.fails(Refused("wide"), chains, large, (), whole(large), most=719)
        self.fails(Refused("wide"), chains, BOW, (), whole(BOW), most=11)
        self.gives(chains(BOW, (), whole(BOW)), chains, BOW, (), whole(BOW), most=12)
        self.fails(Refused("wide"), chains, BOW, ("a",), ("a",), most=0)
        self.gives((), chains, BOW, ("a",), (), most=0)
        with self.assertRaises(TypeError):
            chains(BOW, (), ("a",), 5)

    def test_all_of_a_star(self):
        many = star(10)
        self.assertEqual(count_chains(many, (), whole(many)), 60)
        self.assertEqual(count_chains(many, ("a",), whole(many)), 20)
        self.assertEqual(count_chains(many, ("b", "c"), whole(many)), 1)
        self.assertEqual(len(chains(many, (), ("b", "c"))), 20)


def made_large():
    """Six rooms of five outcomes, any two of which share one."""
    return Book(FIVES.rooms[:6])


class RowTests(Case):
    def rows(self, model):
        """Rows of up to four sayings, each of which implies the next one."""
        found = [()]
        layer = [(saying,) for saying in model.sayings]
        for _ in range(3):
            found.extend(layer)
            layer = [row + (later,) for row in layer[::7] for later in model.up(row[-1])[::2]]
        return found + layer

    def test_rows(self):
        for each in [ONE, TWO, BOW, TRIANGLE, TAILED, star(3), UNLIKE]:
            model = Model(each.rooms)
            for row in self.rows(model):
                rooms = [k for k in range(len(each.rooms)) if all([k in dict(model.forms[s]) for s in row])]
                self.assertEqual(chain_room(each, row), rooms[0])
                self.check_through(each, model, row)

    def check_through(self, each, model, row):
        chain = chain_through(each, row)
        self.assertEqual((chain[0], chain[-1]), ((), model.all))
        for low, high in zip(chain, chain[1:]):
            self.assertIn(high, above(each, low))
        for saying in row:
            self.assertIn(saying, chain)

    def test_in_every_way(self):
        self.gives(0, chain_room, BOW, ())
        self.gives(1, chain_room, BOW, ((), ("d",), ("a", "b"), ("a", "b", "c")))
        self.gives(1, chain_room, BOW, (("d",), ("a", "b")))
        self.gives(0, chain_room, BOW, (("c",), ("c",)))
        for row in [(), (("d",),), (("d",), ("d",), ("a", "b")), ((), ("c",), ("a", "b", "c"))]:
            self.gives(chain_through(BOW, row), chain_through, BOW, row)

    def test_no_rows(self):
        for row in [(("a", "b"), ("a",)), (("a",), ("d",)), ((), ("a",), ()), (("a",), ("a", "c"), ("a", "b"))]:
            self.fails(Refused("row"), chain_room, BOW, row)
            self.fails(Refused("row"), chain_through, BOW, row)
        for value in odd_values():
            self.fails(InvalidSaying(0), chain_room, BOW, (("a",), (value,), (), ("a",)))


if __name__ == "__main__":
    unittest.main()
