"""Least sums under equations: what `some_weight` and the bounds rest on."""

import random
import unittest
from fractions import Fraction

from roomlooks.simplex import Stand, directions, lowered, solved, tops


def made_tasks(seed, many):
    """Tasks with a row that bounds all shares, some with rows that say the same, or nothing."""
    chance, found = random.Random(seed), []
    for _ in range(many):
        columns, entries = chance.randint(1, 7), chance.choice([(0, 1), (-1, 0, 1), (-3, -2, -1, 0, 1, 2, 5)])
        matrix = [[chance.choice(entries) for _ in range(columns)] for _ in range(chance.randint(0, 5))]
        sides = [chance.randint(-4, 4) for _ in matrix]
        for _ in range(chance.choice((0, 0, 1))):
            if matrix:
                at = chance.randrange(len(matrix))
                matrix.append([-2 * entry for entry in matrix[at]])
                sides.append(-2 * sides[at] + chance.choice((0, 0, 0, 1)))
        place = chance.randint(0, len(matrix))
        matrix.insert(place, [1] * columns)
        sides.insert(place, chance.randint(-1, 6))
        found.append((matrix, sides))
    return found


def dot(one, other):
    return sum([a * b for a, b in zip(one, other)])


def columns_of(matrix):
    return [list(column) for column in zip(*matrix)]


class SimplexTests(unittest.TestCase):
    def check_shares(self, matrix, sides, stand):
        shares = [Fraction(top, stand.bottom) for top in tops(stand)]
        self.assertGreater(stand.bottom, 0)
        self.assertGreaterEqual(min(shares), 0)
        self.assertEqual([dot(row, shares) for row in matrix], list(sides))
        return shares

    def test_shares_or_numbers(self):
        kinds = []
        for matrix, sides in made_tasks(1, 600):
            found = solved(matrix, sides)
            kinds.append(isinstance(found, Stand))
            if isinstance(found, Stand):
                self.check_shares(matrix, sides, found)
            else:
                self.assertEqual(len(found), len(matrix))
                self.assertLess(dot(found, sides), 0)
                self.assertGreaterEqual(min([dot(found, column) for column in columns_of(matrix)]), 0)
        self.assertGreater(kinds.count(True), 100)
        self.assertGreater(kinds.count(False), 100)

    def test_least_sums(self):
        chance = random.Random(2)
        for matrix, sides in made_tasks(3, 600):
            stand = solved(matrix, sides)
            if not isinstance(stand, Stand):
                continue
            before = (list(map(list, stand.rows)), list(stand.basis), stand.bottom)
            for _ in range(3):
                costs = [chance.randint(-6, 6) for _ in matrix[0]]
                lower, numbers = lowered(stand, costs)
                shares = self.check_shares(matrix, sides, lower)
                self.assertEqual(dot(costs, shares), Fraction(dot(numbers, sides), lower.bottom))
                for cost, column in zip(costs, columns_of(matrix)):
                    self.assertLessEqual(dot(numbers, column), lower.bottom * cost)
            self.assertEqual((list(map(list, stand.rows)), list(stand.basis), stand.bottom), before)

    def test_directions(self):
        for matrix, sides in made_tasks(4, 300):
            stand = solved(matrix, sides)
            if isinstance(stand, Stand):
                found = directions(stand)
                for entries in found:
                    self.assertEqual([dot(row, entries) for row in matrix], [0] * len(matrix))
                # Each has a column of its own, so none is made of the others; there are as many as can be.
                for at, entries in enumerate(found):
                    own = [k for k in range(len(entries)) if entries[k] and not any([o[k] for o in found[:at] + found[at + 1:]])]
                    self.assertTrue(own)
                basic = [column for column in stand.basis if column < len(matrix[0])]
                self.assertEqual(len(found) + len(basic), len(matrix[0]))
                for row, column in zip(stand.rows, stand.basis):
                    if column >= len(matrix[0]):
                        self.assertFalse(any(row[:len(matrix[0])]))


if __name__ == "__main__":
    unittest.main()
