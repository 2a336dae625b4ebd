"""Weights and settings of joined books, and of books with a room more (point [84])."""

from roomlooks.bounds import greatest_total, least_total, weight_at
from roomlooks.edits import without_room
from roomlooks.errors import Refused
from roomlooks.fractions import less, minus, sum_of
from roomlooks.joined import joined, joined_names
from roomlooks.settings import all_settings, count_settings, is_setting
from roomlooks.weights import FULL, ZERO, check_weight, factors_of

MOST_PAIRS = 4


def _shares(book, weight):
    """A dict from each outcome to its share."""
    return dict(zip(book.outcomes(), weight))


def joined_weight(one, other, first, second, *, at=()):
    """The weight of the joined book that gives each book a weight."""
    both = joined(one, other, at=at)
    check_weight(one, first)
    check_weight(other, second)
    shares, later, names = _shares(one, first), _shares(other, second), joined_names(other, at)
    if any([shares[p] != later[q] for p, q in at]):
        raise Refused("shares")
    for outcome in other.outcomes():
        shares[names[outcome]] = later[outcome]
    return tuple([shares[outcome] for outcome in both.outcomes()])


def weight_parts(one, other, weight, *, at=()):
    """The weights that a weight of the joined book gives both books."""
    both = joined(one, other, at=at)
    check_weight(both, weight)
    shares, names = _shares(both, weight), joined_names(other, at)
    first = tuple([shares[outcome] for outcome in one.outcomes()])
    return (first, tuple([shares[names[outcome]] for outcome in other.outcomes()]))


def joint_range(one, other, pair):
    """The least and the greatest share of the outcome at which two books are joined."""
    both = joined(one, other, at=(pair,))
    factors = factors_of(both, ((1, (pair[0],)),))
    return (least_total(both, factors).value, greatest_total(both, factors).value)


def weight_across(one, other, pair, value):
    """Some weight of two books joined at one pair, with a share for its outcome."""
    both = joined(one, other, at=(pair,))
    return weight_at(both, factors_of(both, ((1, (pair[0],)),)), value)


def count_joined(one, other, *, at=()):
    """The number of settings of the joined book."""
    both = joined(one, other, at=at)
    if len(at) > MOST_PAIRS:
        raise Refused("many")
    return count_settings(both)


def extended(book, room, weight):
    """Some weight of the book with the shares of a weight of the book without a room."""
    rest = without_room(book, room)
    check_weight(rest, weight)
    shares = _shares(rest, weight)
    lack = minus(FULL, sum_of([shares[name] for name in book.rooms[room] if name in shares]))
    added = [name for name in book.rooms[room] if name not in shares]
    if less(lack, ZERO) or (lack != ZERO and not added):
        raise Refused("shares")
    for name in added:
        shares[name] = lack if name == added[0] else ZERO
    return tuple([shares[name] for name in book.outcomes()])


def extensions(book, room, setting):
    """All settings of the book with the outcomes of a setting of the book without a room, in order."""
    rest = without_room(book, room)
    if not is_setting(rest, setting):
        raise Refused("setting")
    return all_settings(book, setting)
