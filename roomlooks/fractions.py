"""Fractions in lowest terms, as pairs of integers (point [50])."""

from math import gcd, lcm

from roomlooks.basics import is_integer
from roomlooks.errors import InvalidNumber


def fraction_of(top, bottom):
    """The fraction of two integers."""
    if bottom == 0:
        raise InvalidNumber("bottom")
    # Dividing by a number with the sign of the bottom leaves a bottom above 0.
    part = gcd(top, bottom) if bottom > 0 else -gcd(top, bottom)
    return (top // part, bottom // part)


def is_fraction(value):
    """Whether any value is a fraction."""
    if not isinstance(value, tuple) or len(value) != 2:
        return False
    top, bottom = value
    return is_integer(top) and is_integer(bottom) and bottom > 0 and gcd(top, bottom) == 1


def common_bottom(fractions):
    """The least integer above 0 that the bottoms of all fractions divide."""
    unit = 1
    for _, bottom in fractions:
        unit = lcm(unit, bottom)
    return unit


def plus(one, other):
    """The sum of two fractions."""
    return fraction_of(one[0] * other[1] + other[0] * one[1], one[1] * other[1])


def minus(one, other):
    """The difference of two fractions."""
    return fraction_of(one[0] * other[1] - other[0] * one[1], one[1] * other[1])


def times(one, other):
    """The product of two fractions."""
    return fraction_of(one[0] * other[0], one[1] * other[1])


def ratio(one, other):
    """The quotient of two fractions, the second of which is not 0."""
    return fraction_of(one[0] * other[1], one[1] * other[0])


def less(one, other):
    """Whether one fraction is less than the other."""
    return one[0] * other[1] < other[0] * one[1]


def sum_of(fractions):
    """The sum of a tuple of fractions."""
    total = (0, 1)
    for fraction in fractions:
        total = plus(total, fraction)
    return total
