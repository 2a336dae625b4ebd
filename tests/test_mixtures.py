"""Mixtures: point [70]."""

import random
import unittest
from fractions import Fraction

from common import Case, Thing, odd_values
from oracle import rings, settings
from samples import (BOW, EIGHT, FANO, FIVE, GRID, K5, LINES, MIDDLE, ONE, PENTAGON, SMALL, SQUARE, TORN, TRIANGLE, TWO, apart, book,
                     made_books, ring_of, row_of, star)
from test_bounds import NEVER, NEVERS, SEVEN
from test_corners import made_weight, pair_of, worth
from roomlooks.bounds import full_weight
from roomlooks.cycles import half_weight, ring_blend
from roomlooks.errors import InvalidWeight, Refused
from roomlooks.mixtures import Bet, Mixture, check_mixture, mixture
from roomlooks.weights import blended, even_weight, some_weight

BOOKS = SMALL + MIDDLE + [NEVER, NEVERS, LINES] + made_books(80, 25)
HALF, ZERO, FULL = (1, 2), (0, 1), (1, 1)
HALVES = (HALF, ZERO, HALF, ZERO, HALF, ZERO)


def setting_lots(each):
    return [setting for _, setting in settings(each.rooms)]


def is_mixture(each, weight, found):
    """Whether settings, in order and each once, and shares above 0 make up a weight, by the words."""
    order = setting_lots(each)
    if type(found.settings) is not tuple or type(found.shares) is not tuple or len(found.settings) != len(found.shares):
        return False
    if not all([type(lot) is tuple and lot in order for lot in found.settings]):
        return False
    places = [order.index(lot) for lot in found.settings]
    if places != sorted(set(places)) or any([worth(part) <= 0 for part in found.shares]):
        return False
    sums = [sum([worth(part) for lot, part in zip(found.settings, found.shares) if name in lot]) for name in each.outcomes()]
    return sums == [worth(part) for part in weight]


def is_bet(each, weight, numbers):
    table = dict(zip(each.outcomes(), numbers))
    if len(numbers) != len(table) or any([sum([table[name] for name in lot]) < 0 for lot in setting_lots(each)]):
        return False
    return sum([number * worth(part) for number, part in zip(numbers, weight)]) < 0


def weights_of(each, chance):
    found = [full_weight(each).weight, some_weight(each)] + ([] if even_weight(each) is None else [even_weight(each)])
    try:
        return found + [made_weight(each, chance) for _ in range(3)]
    except Refused:
        return found


class MixtureTests(Case):
    def test_classes(self):
        self.assertEqual(vars(Mixture(1, 2)), {"settings": 1, "shares": 2})
        self.assertEqual(vars(Mixture(settings=None, shares=())), {"settings": None, "shares": ()})
        self.assertEqual(vars(Bet(1)), {"numbers": 1})
        self.assertEqual(vars(Bet(numbers=None)), {"numbers": None})

    def test_one_of_both(self):
        chance, kinds = random.Random(1), []
        for each in BOOKS:
            for weight in weights_of(each, chance):
                if len(setting_lots(each)) > 200:
                    self.fails(Refused("wide"), mixture, each, weight)
                    continue
                found = mixture(each, weight)
                kinds.append(type(found))
                if isinstance(found, Mixture):
                    self.assertTrue(is_mixture(each, weight, found))
                else:
                    self.assertTrue(is_bet(each, weight, found.numbers))
                    self.assertNotEqual(rings(each.rooms, 3) + rings(each.rooms, 4) + rings(each.rooms, 5), ())
                self.assertIs(check_mixture(each, weight, found), True)
        self.assertGreater(kinds.count(Mixture), 80)
        self.assertGreater(kinds.count(Bet), 20)

    def test_without_rings(self):
        chance = random.Random(2)
        for each in [ONE, FIVE, BOW, TWO, star(4), row_of(6), star(3, 4), book("a b c\nc d e\ne f g\nc h i\nx y z")]:
            for _ in range(4):
                self.assertIsInstance(mixture(each, made_weight(each, chance)), Mixture)

    def test_blends_of_settings(self):
        chance = random.Random(3)
        for each in [BOW, TRIANGLE, SQUARE, GRID, TORN, PENTAGON]:
            lots, names = setting_lots(each), each.outcomes()
            for _ in range(6):
                chosen = chance.sample(lots, min(4, len(lots)))
                parts = [chance.randint(1, 6) for _ in chosen]
                pairs = [(pair_of(Fraction(part, sum(parts))), tuple([FULL if name in lot else ZERO for name in names]))
                         for part, lot in zip(parts, chosen)]
                weight = blended(each, tuple(pairs))
                self.assertIsInstance(mixture(each, weight), Mixture)
                order = sorted(zip(chosen, parts), key=lambda item: lots.index(item[0]))
                value = Mixture(tuple([lot for lot, _ in order]), tuple([pair_of(Fraction(part, sum(parts))) for _, part in order]))
                self.gives(True, check_mixture, each, weight, value)
                turned = Mixture(value.settings[::-1], value.shares[::-1])
                self.gives(len(chosen) < 2, check_mixture, each, weight, turned)

    def test_books_of_one_ring(self):
        for many in range(3, 9):
            each = ring_of(many)
            weight = half_weight(each)
            self.assertEqual(isinstance(mixture(each, weight), Mixture), ring_blend(each, weight) is not None)

    def test_books_without_a_setting(self):
        weight = some_weight(K5)
        self.assertEqual(setting_lots(K5), [])
        self.assertTrue(is_bet(K5, weight, mixture(K5, weight).numbers))
        self.gives(True, check_mixture, K5, weight, Bet((-1,) * 10))
        self.gives(False, check_mixture, K5, weight, Bet((1,) * 10))
        self.gives(False, check_mixture, K5, weight, Mixture((), ()))

    def test_in_every_way(self):
        self.gives(Mixture((("b",),), (FULL,)), mixture, ONE, (ZERO, FULL, ZERO))
        self.gives(Mixture((("a",), ("c",)), ((1, 3), (2, 3))), mixture, ONE, ((1, 3), ZERO, (2, 3)))
        self.assertIsInstance(mixture(TRIANGLE, HALVES), Bet)
        for each in [ONE, BOW, TRIANGLE, GRID, K5, FANO, NEVER, star(6)]:
            weight = full_weight(each).weight
            self.gives(mixture(each, weight), mixture, each, weight)
            self.gives(True, check_mixture, each, weight, mixture(each, weight))

    def test_many_settings(self):
        self.assertEqual(len(setting_lots(book("a b c\nd e f g\nh i j k\nl m n o"))), 192)
        wide = book("a b c\nd e f g\nh i j k\nl m n o")
        self.assertIsInstance(mixture(wide, even_weight(wide)), Mixture)
        most, more = book("a b c d\ne f g h\ni j k l m\ng n o p"), book("a b c d e\nd f g h i\nj k l m\nd m n\no p q")
        self.assertEqual([len(setting_lots(most)), len(setting_lots(more))], [200, 201])
        self.assertIsInstance(mixture(most, full_weight(most).weight), Mixture)
        self.fails(Refused("wide"), mixture, more, full_weight(more).weight)
        for each in [EIGHT, apart(4, 4), row_of(10), apart(5)]:
            self.assertGreater(len(setting_lots(each)), 200)
            self.fails(Refused("wide"), mixture, each, even_weight(each))
        # The check has no such bound.
        weight = tuple([FULL if name in "adgjm" else ZERO for name in apart(5).outcomes()])
        self.gives(True, check_mixture, apart(5), weight, Mixture((("a", "d", "g", "j", "m"),), (FULL,)))
        self.gives(False, check_mixture, apart(5), weight, Mixture((("a", "d", "g", "j", "n"),), (FULL,)))
        self.gives(False, check_mixture, apart(5), weight, Bet((0,) * 15))

    def test_wrong_weights(self):
        for function in (mixture, lambda book, weight: check_mixture(book, weight, None)):
            for value in odd_values():
                for each in (BOW, EIGHT, SEVEN):
                    if not isinstance(value, tuple):
                        self.fails(InvalidWeight(-1), function, each, value)
                    self.fails(InvalidWeight(1), function, each, (FULL, value))
            self.fails(InvalidWeight(4), function, BOW, (ZERO, ZERO, FULL, ZERO))
            self.fails(InvalidWeight(6), function, BOW, (FULL, HALF, ZERO, HALF, HALF))
            self.fails(InvalidWeight(24), function, EIGHT, (FULL, ZERO, ZERO) * 8 + (ZERO,))


class CheckTests(Case):
    def test_spoilt_mixtures(self):
        chance = random.Random(4)
        for each in [ONE, BOW, SQUARE, GRID]:
            weight = made_weight(each, chance) if each is not GRID else even_weight(each)
            good = mixture(each, weight)
            if isinstance(good, Bet):
                continue
            for at, (lot, part) in enumerate(zip(good.settings, good.shares)):
                for other in [list(lot), lot[::-1] if len(lot) > 1 else (), None, lot[1:], lot + ("z",), setting_lots(each)[0], "a"]:
                    value = Mixture(good.settings[:at] + (other,) + good.settings[at + 1:], good.shares)
                    self.gives(other == lot or is_mixture(each, weight, value), check_mixture, each, weight, value)
                for other in [ZERO, None, pair_of(worth(part) / 2), (2 * part[0], 2 * part[1]), list(part), worth(part), part + (1,), (part[0], -part[1])]:
                    value = Mixture(good.settings, good.shares[:at] + (other,) + good.shares[at + 1:])
                    self.gives(False, check_mixture, each, weight, value)
            for settings_, shares in [(good.settings[1:], good.shares[1:]), (good.settings[1:], good.shares), (good.settings, good.shares[1:]),
                                      (list(good.settings), good.shares), (good.settings, list(good.shares)), (None, good.shares),
                                      (good.settings + good.settings[:1], good.shares + (ZERO,)), (good.settings, None)]:
                self.gives(False, check_mixture, each, weight, Mixture(settings_, shares))
            # Shares without settings, and settings without shares, or with the share 0.
            self.gives(False, check_mixture, each, weight, Mixture(good.settings, good.shares + (HALF,)))
            for lot in [lot for lot in setting_lots(each) if lot not in good.settings]:
                at = len([one for one in good.settings if setting_lots(each).index(one) < setting_lots(each).index(lot)])
                more = good.settings[:at] + (lot,) + good.settings[at:]
                self.gives(False, check_mixture, each, weight, Mixture(more, good.shares))
                self.gives(False, check_mixture, each, weight, Mixture(more, good.shares[:at] + (ZERO,) + good.shares[at:]))
            # A setting twice, each time with half of its share.
            half = pair_of(worth(good.shares[0]) / 2)
            twice = Mixture(good.settings[:1] + good.settings, (half, half) + good.shares[1:])
            self.gives(False, check_mixture, each, weight, twice)

    def test_spoilt_bets(self):
        checked = 0
        for each, weight in [(TRIANGLE, HALVES), (K5, some_weight(K5)), (TORN, full_weight(TORN).weight), (FANO, even_weight(FANO))]:
            good = mixture(each, weight)
            if not isinstance(good, Bet):
                continue
            for at, number in enumerate(good.numbers):
                for step in (-1, 1, 5, -5):
                    numbers = good.numbers[:at] + (number + step,) + good.numbers[at + 1:]
                    checked += 1
                    self.gives(is_bet(each, weight, numbers), check_mixture, each, weight, Bet(numbers))
                for other in [None, str(number), number + 0.5, (number,)]:
                    self.gives(False, check_mixture, each, weight, Bet(good.numbers[:at] + (other,) + good.numbers[at + 1:]))
            for numbers in [good.numbers[1:], good.numbers + (0,), list(good.numbers), (0,) * len(good.numbers), None, (), tuple([-n for n in good.numbers])]:
                self.gives(False, check_mixture, each, weight, Bet(numbers))
            double = tuple([10 ** 30 * number for number in good.numbers])
            self.gives(True, check_mixture, each, weight, Bet(double))
        self.assertGreater(checked, 40)

    def test_bets_on_mixtures(self):
        chance = random.Random(5)
        for each in [BOW, SQUARE, TRIANGLE]:
            for _ in range(60):
                weight = made_weight(each, chance)
                numbers = tuple([chance.randint(-2, 3) for _ in each.outcomes()])
                self.assertIs(check_mixture(each, weight, Bet(numbers)), is_bet(each, weight, numbers))
                if isinstance(mixture(each, weight), Mixture):
                    self.assertFalse(is_bet(each, weight, numbers))

    def test_any_value(self):
        good = mixture(BOW, even_weight(BOW))
        bet = mixture(TRIANGLE, HALVES)
        for value in odd_values() + [Thing(**vars(good)), Thing(**vars(bet)), good.settings]:
            self.gives(False, check_mixture, BOW, even_weight(BOW), value)
            self.gives(False, check_mixture, TRIANGLE, HALVES, value)
            self.gives(False, check_mixture, TRIANGLE, HALVES, Bet(value))
            if value not in (-1, 10 ** 30):
                self.gives(False, check_mixture, TRIANGLE, HALVES, Bet(bet.numbers[:-1] + (value,)))
            self.gives(False, check_mixture, BOW, even_weight(BOW), Mixture(value if value != good.settings else None, good.shares))
            self.gives(False, check_mixture, BOW, even_weight(BOW), Mixture(good.settings, value))
            self.gives(False, check_mixture, BOW, even_weight(BOW), Mixture((value,) + good.settings[1:], good.shares))
            self.gives(False, check_mixture, BOW, even_weight(BOW), Mixture(good.settings, (value,) + good.shares[1:]))


if __name__ == "__main__":
    unittest.main()
