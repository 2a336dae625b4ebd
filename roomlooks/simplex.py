"""Least sums under equations, in integers alone, with numbers that show that no sum is less.

A task is a matrix and a tuple of sides, all integers: wanted are shares from 0 on, one for each
column, such that in each row the shares, each times its entry, sum to the side. The rows must
leave all shares bounded. Each row gets a column of its own behind those of the matrix. What its
entries have become tells the numbers.
"""


class Stand:
    """Where a task stands: its changed rows with their sides last, over a common bottom.

    `basis` has for each row the column that has 1 there and 0 in all other rows; `turned` has -1
    for each row whose signs were changed at the start and 1 for each other one.
    """

    def __init__(self, rows, basis, bottom, turned):
        self.rows = rows
        self.basis = basis
        self.bottom = bottom
        self.turned = turned

    def many(self):
        """How many columns the matrix has."""
        return len(self.rows[0]) - len(self.rows) - 1


def _start(matrix, sides):
    """The stand in which each row has its own column in the basis."""
    turned = [-1 if side < 0 else 1 for side in sides]
    rows = []
    for at, row in enumerate(matrix):
        own = [1 if other == at else 0 for other in range(len(matrix))]
        rows.append([turned[at] * entry for entry in row] + own + [turned[at] * sides[at]])
    many = len(matrix[0])
    return Stand(rows, [many + at for at in range(len(rows))], 1, turned)


def _costs_left(stand, costs):
    """What one more of each column would add to the costs, times the bottom; the sum turned, last."""
    left = [cost * stand.bottom for cost in costs] + [0]
    for row, column in zip(stand.rows, stand.basis):
        if costs[column]:
            left = [entry - costs[column] * own for entry, own in zip(left, row)]
    return left


def _pivoted(stand, at, column):
    """The stand with a column put into the basis for a row, in which its entry is above 0."""
    chosen = stand.rows[at]
    rows = [_cleared(row, chosen, column, stand.bottom) for row in stand.rows]
    rows[at] = chosen
    basis = list(stand.basis)
    basis[at] = column
    return Stand(rows, basis, chosen[column], stand.turned)


def _cleared(row, chosen, column, bottom):
    # All entries are determinants of parts of the matrix, so nothing is left over.
    first, second = chosen[column], row[column]
    return [(first * entry - second * own) // bottom for entry, own in zip(row, chosen)]


def _lowered(stand, costs):
    """The stand with the least costs, and the costs left there."""
    while True:
        left = _costs_left(stand, costs)
        # The first column and the first fitting basis: so no stand comes twice.
        columns = [column for column in range(stand.many()) if left[column] < 0]
        if not columns:
            return (stand, left)
        stand = _pivoted(stand, _leaving(stand, columns[0]), columns[0])


def _leaving(stand, column):
    """The row that first comes to 0 as a column grows; of several the one with the least basis."""
    best = None
    for at, row in enumerate(stand.rows):
        if row[column] > 0 and (best is None or _is_tighter(stand, at, best, column)):
            best = at
    return best


def _is_tighter(stand, at, best, column):
    row, other = stand.rows[at], stand.rows[best]
    one, two = row[-1] * other[column], other[-1] * row[column]
    return one < two or (one == two and stand.basis[at] < stand.basis[best])


def solved(matrix, sides):
    """Some Stand with shares from 0 on that keep all rows, or a list of numbers if there is none.

    The numbers are one for each row. Each times its side, they sum to less than 0; each times
    its entry, they sum at no column to less than 0.
    """
    stand = _start(matrix, sides)
    many = stand.many()
    stand, left = _lowered(stand, [0] * many + [1] * len(stand.rows))
    if left[-1] < 0:
        return [sign * (own - stand.bottom) for sign, own in zip(stand.turned, left[many:-1])]
    for at in range(len(stand.rows)):
        stand = _settled(stand, at)
    return stand


def _settled(stand, at):
    """The stand with a column of the matrix in the basis for a row, if there is one for it."""
    row = stand.rows[at]
    columns = [column for column in range(stand.many()) if row[column]]
    if stand.basis[at] < stand.many() or not columns:
        return stand
    # The side is 0 here, so the row may change its signs.
    if row[columns[0]] < 0:
        stand = Stand(list(stand.rows), stand.basis, stand.bottom, stand.turned)
        stand.rows[at] = [-entry for entry in row]
    return _pivoted(stand, at, columns[0])


def lowered(stand, costs):
    """The stand with the least sum of shares, each times its cost, and the numbers that show it.

    The numbers, one for each row, are taken over the bottom of the stand: each times its entry,
    they sum at each column to at most its cost; each times its side, to the least sum.
    """
    many = stand.many()
    stand, left = _lowered(stand, list(costs) + [0] * len(stand.rows))
    return (stand, [-sign * own for sign, own in zip(stand.turned, left[many:-1])])


def tops(stand):
    """The shares of all columns of the matrix, times the bottom of the stand."""
    found = [0] * stand.many()
    for row, column in zip(stand.rows, stand.basis):
        if column < len(found):
            found[column] = row[-1]
    return found


def directions(stand):
    """Integers for all columns of the matrix that sum to 0 in each row: a basis of all such."""
    found = []
    for column in range(stand.many()):
        if column not in stand.basis:
            entries = [stand.bottom if other == column else 0 for other in range(stand.many())]
            for row, own in zip(stand.rows, stand.basis):
                if own < len(entries):
                    entries[own] = -row[column]
            found.append(entries)
    return found
