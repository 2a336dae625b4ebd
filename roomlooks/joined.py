"""Two books joined at pairs of outcomes (points [79] to [81])."""

from roomlooks.basics import is_number_within
from roomlooks.books import Book
from roomlooks.errors import InvalidNumber, Refused
from roomlooks.rings import rings_of, shortest_ring
from roomlooks.sayings import (
    NONE,
    check_saying,
    in_order,
    known_forms,
    known_implies,
    known_opposite,
    whole,
    written,
)


def joined(one, other, *, at=()):
    """The book of the rooms of both, joined at pairs of outcomes."""
    _check_pairs(one, other, at)
    names = joined_names(other, at)
    taken = [second for _, second in at]
    if any([one.rooms_of(name) for name in names if name not in taken]):
        raise Refused("names")
    later = [tuple(sorted([names[outcome] for outcome in room])) for room in other.rooms]
    return Book(one.rooms + tuple(later))


def _check_pairs(one, other, at):
    """Raise Refused unless any value is a tuple of pairs that two books can be joined at."""
    if not isinstance(at, tuple) or not all([_is_pair(one, other, pair) for pair in at]):
        raise Refused("pairs")
    for place in (0, 1):
        if len(set([pair[place] for pair in at])) < len(at):
            raise Refused("pairs")


def _is_pair(one, other, pair):
    if not isinstance(pair, tuple) or len(pair) != 2:
        return False
    return one.rooms_of(pair[0]) != () and other.rooms_of(pair[1]) != ()


def joined_names(other, at):
    """A dict from each outcome of the second book to its name in the joined book."""
    first_of = {second: first for first, second in at}
    return {outcome: first_of.get(outcome, outcome) for outcome in other.outcomes()}


def lifted(one, other, saying, *, at=()):
    """The saying of the joined book for a saying of the second book."""
    both = joined(one, other, at=at)
    check_saying(other, saying)
    names = joined_names(other, at)
    room, lot = known_forms(other, saying)[0]
    return written(both, len(one.rooms) + room, tuple(sorted([names[outcome] for outcome in lot])))


def _check_many(at):
    if len(at) > 2:
        raise Refused("many")


def rings_across(one, other, size, *, at=()):
    """The written rings of so many rooms of the joined book that have rooms of both, ascending."""
    both = joined(one, other, at=at)
    if not is_number_within(size, 3, 5):
        raise InvalidNumber("size")
    _check_many(at)
    return tuple([ring for ring in rings_of(both, size) if _is_across(ring, len(one.rooms))])


def _is_across(ring, first_later):
    rooms = [room for room, _ in ring]
    return min(rooms) < first_later <= max(rooms)


def joined_girth(one, other, *, at=()):
    """The number of rooms of a shortest ring of the joined book, or None."""
    both = joined(one, other, at=at)
    _check_many(at)
    ring = shortest_ring(both)
    return None if ring is None else len(ring)


def _check_sides(one, other, first, second, at):
    """Raise an error unless any values are sayings of the two books that are not common."""
    check_saying(one, first)
    check_saying(other, second)
    firsts, seconds = [pair[0] for pair in at], [pair[1] for pair in at]
    if _is_common(one, first, firsts) or _is_common(other, second, seconds):
        raise Refused("common")


def _is_common(book, saying, outcomes):
    if saying == NONE or saying == whole(book):
        return True
    singles = [(outcome,) for outcome in outcomes]
    return any([saying in (single, known_opposite(book, single)) for single in singles])


def least_across(one, other, first, second, *, at=()):
    """The least sayings of the joined book that a saying of each book imply, in order."""
    both = joined(one, other, at=at)
    _check_sides(one, other, first, second, at)
    found = [
        known_opposite(both, (p,))
        for p, q in at
        if known_implies(one, first, known_opposite(one, (p,)))
        and known_implies(other, second, known_opposite(other, (q,)))
    ]
    return in_order(found) if found else (whole(both),)


def greatest_across(one, other, first, second, *, at=()):
    """The greatest sayings of the joined book that imply a saying of each book, in order."""
    joined(one, other, at=at)
    _check_sides(one, other, first, second, at)
    found = [
        (p,) for p, q in at if known_implies(one, (p,), first) and known_implies(other, (q,), second)
    ]
    return in_order(found) if found else (NONE,)
