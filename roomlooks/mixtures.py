"""Mixtures: weights that are made of settings, or bets that show that one is not (point [70])."""

from roomlooks.basics import is_ascending
from roomlooks.errors import Refused
from roomlooks.fractions import common_bottom, fraction_of, is_fraction, sum_of, times
from roomlooks.settings import all_settings, choices, is_setting
from roomlooks.simplex import Stand, solved, tops
from roomlooks.weights import are_integers, check_weight

MOST_SETTINGS = 200


class Mixture:
    """Settings, and shares of them that make up a weight."""

    def __init__(self, settings, shares):
        self.settings = settings
        self.shares = shares


class Bet:
    """Numbers of outcomes that no setting has together below 0, but the weight has."""

    def __init__(self, numbers):
        self.numbers = numbers


def mixture(book, weight):
    """Some Mixture for a weight, or some Bet if there is none."""
    check_weight(book, weight)
    settings = all_settings(book)
    if len(settings) > MOST_SETTINGS:
        raise Refused("wide")
    unit = common_bottom(weight)
    matrix = [[1 if outcome in setting else 0 for setting in settings] for outcome in book.outcomes()]
    found = solved(matrix, [top * (unit // bottom) for top, bottom in weight])
    if not isinstance(found, Stand):
        return Bet(tuple(found))
    used = [(setting, top) for setting, top in zip(settings, tops(found)) if top]
    parts = [fraction_of(top, found.bottom * unit) for _, top in used]
    return Mixture(tuple([setting for setting, _ in used]), tuple(parts))


def check_mixture(book, weight, value):
    """Whether any value is a Mixture or a Bet for a weight."""
    check_weight(book, weight)
    if isinstance(value, Mixture):
        return _is_mixture(book, weight, value.settings, value.shares)
    return isinstance(value, Bet) and _is_bet(book, weight, value.numbers)


def _is_mixture(book, weight, settings, shares):
    if not isinstance(settings, tuple) or not all([is_setting(book, setting) for setting in settings]):
        return False
    if not is_ascending([choices(book, setting) for setting in settings]):
        return False
    if not isinstance(shares, tuple) or len(shares) != len(settings):
        return False
    if not all([is_fraction(part) and part[0] > 0 for part in shares]):
        return False
    pairs = list(zip(settings, shares))
    sums = [sum_of([part for setting, part in pairs if name in setting]) for name in book.outcomes()]
    return tuple(sums) == weight


def _is_bet(book, weight, numbers):
    if not are_integers(numbers, len(book.outcomes())):
        return False
    table = dict(zip(book.outcomes(), numbers))
    if any([sum([table[name] for name in setting]) < 0 for setting in all_settings(book)]):
        return False
    total = sum_of([times(part, (number, 1)) for part, number in zip(weight, numbers)])
    return total[0] < 0
