"""What sayings imply, what is just above them, and chains (points [17] to [19])."""

from math import factorial

from roomlooks.errors import Refused
from roomlooks.sayings import (
    NONE,
    check_saying,
    in_order,
    known_forms,
    known_implies,
    known_together,
    lots_of,
    rest_of,
    written,
)


def implied(book, saying):
    """All sayings that a saying implies, in order, itself too."""
    check_saying(book, saying)
    found = []
    for room, lot in known_forms(book, saying):
        more = lots_of(rest_of(book.rooms[room], lot))
        found.extend([written(book, room, _joined(lot, added)) for added in more])
    return in_order(found)


def implying(book, saying):
    """All sayings that imply a saying, in order, itself too."""
    check_saying(book, saying)
    found = []
    for room, lot in known_forms(book, saying):
        found.extend([written(book, room, part) for part in lots_of(lot)])
    return in_order(found)


def _joined(lot, added):
    return tuple(sorted(lot + added))


def between(book, one, other):
    """All sayings that one saying implies and that imply the other, in order."""
    check_saying(book, one)
    check_saying(book, other)
    return tuple([saying for saying in implied(book, one) if known_implies(book, saying, other)])


def count_implied(book):
    """The number of pairs of sayings of which the first one implies the second one."""
    inner = sum([_pairs_in_room(len(room)) for room in book.rooms])
    again = sum([len(book.rooms_of(outcome)) - 1 for outcome in book.outcomes()])
    return inner - 3 * (len(book.rooms) - 1) - 6 * again


def _pairs_in_room(size):
    """How many pairs of lots of a room there are of which the first lies within the second."""
    many = 1
    for _ in range(size):
        many = many * 3
    return many


def above(book, saying):
    """The sayings just above a saying, in order."""
    check_saying(book, saying)
    found = []
    for room, lot in known_forms(book, saying):
        more = rest_of(book.rooms[room], lot)
        found.extend([written(book, room, _joined(lot, (outcome,))) for outcome in more])
    return in_order(found)


def below(book, saying):
    """The sayings that a saying is just above, in order."""
    check_saying(book, saying)
    found = []
    for room, lot in known_forms(book, saying):
        found.extend([written(book, room, rest_of(lot, (outcome,))) for outcome in lot])
    return in_order(found)


def _steps_by_room(book, one, other):
    """The numbers of steps from one saying to the other, one for each room in which they stand.

    The list is empty if the first does not imply the second.
    """
    if not known_implies(book, one, other):
        return []
    starts, ends = dict(known_forms(book, one)), dict(known_forms(book, other))
    return [len(ends[room]) - len(starts[room]) for room in known_together(book, one, other)]


def chains(book, one, other, *, most=500):
    """All chains from one saying to the other, in order."""
    if count_chains(book, one, other) > most:
        raise Refused("wide")
    return tuple(_chains_up(book, one, other))


def _chains_up(book, one, other):
    if one == other:
        return [(one,)]
    found = []
    for step in above(book, one):
        if known_implies(book, step, other):
            found.extend([(one,) + chain for chain in _chains_up(book, step, other)])
    return found


def count_chains(book, one, other):
    """How many chains from one saying to the other there are."""
    check_saying(book, one)
    check_saying(book, other)
    steps = _steps_by_room(book, one, other)
    # With no or one step, the chains of all rooms are the same one.
    if any([many < 2 for many in steps]):
        return 1
    return sum([factorial(many) for many in steps])


def chain_lengths(book, one, other):
    """The numbers of steps that chains from one saying to the other have, ascending."""
    check_saying(book, one)
    check_saying(book, other)
    return tuple(sorted(set(_steps_by_room(book, one, other))))


def longest_chain(book, one, other):
    """The first of the chains with the most steps, or None."""
    lengths = chain_lengths(book, one, other)
    return _first_chain(book, one, other, lengths[-1]) if lengths else None


def shortest_chain(book, one, other):
    """The first of the chains with the fewest steps, or None."""
    lengths = chain_lengths(book, one, other)
    return _first_chain(book, one, other, lengths[0]) if lengths else None


def _first_chain(book, one, other, steps):
    """The first chain with so many steps, which there is."""
    chain = (one,)
    for left in range(steps - 1, -1, -1):
        fitting = [step for step in above(book, chain[-1]) if left in _steps_by_room(book, step, other)]
        chain = chain + (fitting[0],)
    return chain


def _check_row(book, row):
    for saying in row:
        check_saying(book, saying)
    for at in range(1, len(row)):
        if not known_implies(book, row[at - 1], row[at]):
            raise Refused("row")


def chain_room(book, row):
    """The least number of a room in which all sayings of a row have forms."""
    _check_row(book, row)
    own = [dict(known_forms(book, saying)) for saying in row]
    common = [room for room in range(len(book.rooms)) if all([room in lots for lots in own])]
    return common[0]


def chain_through(book, row):
    """Some chain from none to all that contains all sayings of a row."""
    room = chain_room(book, row)
    lots = [dict(known_forms(book, saying))[room] for saying in row]
    names = []
    for lot in lots + [book.rooms[room]]:
        names = names + list(rest_of(lot, names))
    ends = range(1, len(names) + 1)
    return (NONE,) + tuple([written(book, room, tuple(sorted(names[:end]))) for end in ends])
