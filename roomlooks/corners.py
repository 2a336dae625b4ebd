"""Corners: weights that are not the mean of two other weights (point [57])."""

from math import gcd

from roomlooks.basics import count_bits, is_number_within
from roomlooks.bounds import freedom
from roomlooks.errors import InvalidNumber, Refused
from roomlooks.fractions import fraction_of, is_fraction, less, minus, plus, ratio, sum_of, times
from roomlooks.simplex import directions, solved, tops
from roomlooks.weights import FULL, ZERO, blended, check_weight, is_weight

MOST_CORNERS = 1000


def _used(book, weight):
    """The outcomes to which a weight gives a share above 0, as a list."""
    return [name for name, part in zip(book.outcomes(), weight) if part[0]]


def _stand_within(book, weight):
    """Some stand of the weights whose shares are 0 wherever those of a weight are."""
    used = _used(book, weight)
    return solved([[1 if name in room else 0 for name in used] for room in book.rooms], [1 for _ in book.rooms])


def _spread_out(book, weight, values):
    """A list with the values of the outcomes that a weight uses, and 0 for each other outcome."""
    table = dict(zip(_used(book, weight), values))
    return [table.get(name, 0) for name in book.outcomes()]


def halves(book, weight):
    """Some pair of unlike weights with a weight as their mean, or None for a corner."""
    check_weight(book, weight)
    found = directions(_stand_within(book, weight))
    if not found:
        return None
    entries = _spread_out(book, weight, found[0])
    steps = [ratio(part, (abs(entry), 1)) for part, entry in zip(weight, entries) if entry]
    step = _least(steps)
    return (_moved(weight, entries, step), _moved(weight, entries, minus(ZERO, step)))


def _least(fractions):
    best = fractions[0]
    for fraction in fractions:
        best = fraction if less(fraction, best) else best
    return best


def _moved(weight, entries, step):
    return tuple([plus(part, times(step, (entry, 1))) for part, entry in zip(weight, entries)])


def is_corner(book, weight):
    """Whether a weight is a corner."""
    return halves(book, weight) is None


class Point:
    """A corner of a book of the first rooms: whole shares over a common bottom.

    `bits` tells in one integer which shares are above 0.
    """

    def __init__(self, shares, bottom):
        part = bottom
        for own in shares:
            part = gcd(part, own)
        self.shares = [own // part for own in shares]
        self.bottom = bottom // part
        self.bits = sum([1 << at for at, own in enumerate(shares) if own])


def corners(book, *, most=200):
    """All corners, ascending."""
    if not is_number_within(most, 0, MOST_CORNERS):
        raise InvalidNumber("most")
    names, points = [], [Point([], 1)]
    for many, room in enumerate(book.rooms):
        added = [name for name in room if name not in names]
        old = [at for at, name in enumerate(names) if name in room]
        points = _filled(_cut(points, old, many), old, len(added))
        names = names + added
        if len(points) > most:
            raise Refused("wide")
    return tuple(sorted([_weight_of(book, names, point) for point in points]))


def _weight_of(book, names, point):
    parts = dict(zip(names, [fraction_of(own, point.bottom) for own in point.shares]))
    return tuple([parts[name] for name in book.outcomes()])


def _excess(point, old):
    """How much more than 1 the shares at some places are together, times the bottom."""
    return sum([point.shares[at] for at in old]) - point.bottom


def _cut(points, old, many):
    """The corners that are left if the shares at some places are together at most 1.

    So many rooms have led to the corners so far.
    """
    under = [point for point in points if _excess(point, old) < 0]
    over = [point for point in points if _excess(point, old) > 0]
    found = [point for point in points if _excess(point, old) <= 0]
    for one in under:
        for other in over:
            if _is_edge(points, one.bits | other.bits, many):
                found.append(_between(one, other, old))
    return found


def _is_edge(points, bits, many):
    """Whether just two corners have no share above 0 outside of some places."""
    # Between two corners alone there are at most as many shares as rooms, and one more.
    if count_bits(bits) > many + 1:
        return False
    return len([point for point in points if not point.bits & ~bits]) == 2


def _between(one, other, old):
    """The point on the edge of two corners where the shares at some places are together 1."""
    lack, excess = -_excess(one, old), _excess(other, old)
    shares = [excess * own + lack * later for own, later in zip(one.shares, other.shares)]
    return Point(shares, excess * one.bottom + lack * other.bottom)


def _filled(points, old, many):
    """The corners with so many outcomes more, one of which has what is lacking of 1.

    Without such an outcome, just those are left that lack nothing.
    """
    found = []
    for point in points:
        lack = -_excess(point, old)
        rows = [[lack if at == place else 0 for at in range(many)] for place in range(many)]
        # Where nothing is lacking, all of the rows are the same.
        for row in rows if lack else [[0] * many]:
            found.append(Point(point.shares + row, point.bottom))
    return found


def corner_blend(book, weight):
    """Some pairs (fraction, corner) of unlike corners that blend to a weight."""
    check_weight(book, weight)
    left, rest, pairs = FULL, weight, ()
    while left != ZERO:
        stand = _stand_within(book, rest)
        corner = tuple([fraction_of(top, stand.bottom) for top in _spread_out(book, rest, tops(stand))])
        # So much of the corner is in the rest that a share of it goes to 0, or nothing is left.
        part = _least([ratio(own, top) for own, top in zip(rest, corner) if top[0]])
        pairs = pairs + ((times(left, part), corner),)
        left = times(left, minus(FULL, part))
        if left != ZERO:
            rest = tuple([_without(own, part, top) for own, top in zip(rest, corner)])
    return pairs


def _without(own, part, top):
    return ratio(minus(own, times(part, top)), minus(FULL, part))


def check_corner_blend(book, weight, value):
    """Whether any value is such a tuple of pairs for a weight."""
    check_weight(book, weight)
    if not isinstance(value, tuple) or len(value) > freedom(book) + 1:
        return False
    if not all([_is_part(book, item) for item in value]):
        return False
    if len(set([corner for _, corner in value])) < len(value):
        return False
    return sum_of([part for part, _ in value]) == FULL and blended(book, value) == weight


def _is_part(book, item):
    """Whether any value is a pair of a fraction above 0 and a corner."""
    if not isinstance(item, tuple) or len(item) != 2:
        return False
    part, corner = item
    return is_fraction(part) and part[0] > 0 and is_weight(book, corner) and is_corner(book, corner)
