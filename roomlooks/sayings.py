"""Sayings: their forms and order, opposites, and implying (points [12] to [16]).

Functions that begin with `known_` take on trust that what they are passed are sayings.
"""

from roomlooks.basics import check_room, is_number
from roomlooks.errors import InvalidNumber, InvalidSaying

NONE = ()


def whole(book):
    """The saying all, which is written as room 0."""
    return book.rooms[0]


def rest_of(room, lot):
    """The outcomes of a room that a lot lacks."""
    return tuple([outcome for outcome in room if outcome not in lot])


def lots_of(room):
    """All lots of outcomes of a room, as a list."""
    lots = [()]
    for outcome in room:
        lots = lots + [lot + (outcome,) for lot in lots]
    return lots


def written(book, room, lot):
    """The saying of a form that is known to be one."""
    rest = rest_of(book.rooms[room], lot)
    if not rest:
        return whole(book)
    if len(rest) > 1:
        return lot
    # A lot that lacks one outcome has a form in each room of this outcome.
    first = book.rooms_of(rest[0])[0]
    return rest_of(book.rooms[first], rest)


def saying_of(book, room, lot):
    """The saying of a form, for any values as room and lot."""
    check_room(book, room, "room")
    if not isinstance(lot, tuple):
        raise InvalidSaying(-1)
    for at, item in enumerate(lot):
        if room not in book.rooms_of(item) or (at > 0 and not lot[at - 1] < item):
            raise InvalidSaying(at)
    return written(book, room, lot)


def check_saying(book, value):
    """Raise InvalidSaying unless any value is a saying as it is written."""
    if not isinstance(value, tuple):
        raise InvalidSaying(-1)
    homes = list(range(len(book.rooms)))
    for at, item in enumerate(value):
        own = book.rooms_of(item)
        homes = [room for room in homes if room in own]
        if not homes or (at > 0 and not value[at - 1] < item):
            raise InvalidSaying(at)
    if written(book, homes[0], value) != value:
        raise InvalidSaying(len(value))


def is_saying(book, value):
    """Whether any value is a saying as it is written."""
    try:
        check_saying(book, value)
    except InvalidSaying:
        return False
    return True


def known_forms(book, saying):
    """The forms of a saying, ascending."""
    if not saying:
        return tuple([(room, NONE) for room in range(len(book.rooms))])
    if saying == whole(book):
        return tuple(enumerate(book.rooms))
    if len(saying) == 1:
        return tuple([(room, saying) for room in book.rooms_of(saying[0])])
    room = book.room_of_two(saying[0], saying[1])
    rest = rest_of(book.rooms[room], saying)
    if len(rest) > 1:
        return ((room, saying),)
    return tuple([(home, rest_of(book.rooms[home], rest)) for home in book.rooms_of(rest[0])])


def forms(book, saying):
    """The forms of a saying, ascending."""
    check_saying(book, saying)
    return known_forms(book, saying)


def saying_order(saying):
    """The key by which sayings are ordered."""
    return (len(saying), saying)


def pair_order(pair):
    """The key by which pairs of sayings are ordered: by the first, then by the second saying."""
    return (saying_order(pair[0]), saying_order(pair[1]))


def in_order(sayings):
    """The sayings of a list in order, each once."""
    return tuple(sorted(list({saying: True for saying in sayings}), key=saying_order))


def all_sayings(book, *, size=None):
    """All sayings in order, or those that are written with one length."""
    found = []
    for room, outcomes in enumerate(book.rooms):
        found.extend([written(book, room, lot) for lot in lots_of(outcomes)])
    return in_order([saying for saying in found if size is None or len(saying) == size])


def count_sayings(book):
    """How many sayings there are."""
    inner = sum([(1 << len(room)) - 2 for room in book.rooms])
    return 2 + inner - 2 * sum([len(book.rooms_of(outcome)) - 1 for outcome in book.outcomes()])


def place_of(book, saying):
    """The index of a saying among all sayings."""
    check_saying(book, saying)
    return all_sayings(book).index(saying)


def saying_at(book, place):
    """The saying with an index, for any value as the index."""
    if not is_number(place) or place >= count_sayings(book):
        raise InvalidNumber("place")
    return all_sayings(book)[place]


def known_opposite(book, saying):
    """The opposite of a saying."""
    room, lot = known_forms(book, saying)[0]
    return written(book, room, rest_of(book.rooms[room], lot))


def opposite(book, saying):
    """The opposite of a saying."""
    check_saying(book, saying)
    return known_opposite(book, saying)


def known_implies(book, one, other):
    """Whether one saying implies the other."""
    lots = dict(known_forms(book, other))
    own = known_forms(book, one)
    return any([room in lots and not rest_of(lot, lots[room]) for room, lot in own])


def implies(book, one, other):
    """Whether one saying implies the other."""
    check_saying(book, one)
    check_saying(book, other)
    return known_implies(book, one, other)


def known_together(book, one, other):
    """The numbers of the rooms in which both sayings have forms, ascending."""
    lots = dict(known_forms(book, other))
    return tuple([room for room, _ in known_forms(book, one) if room in lots])


def together(book, one, other):
    """The numbers of the rooms in which both sayings have forms, ascending."""
    check_saying(book, one)
    check_saying(book, other)
    return known_together(book, one, other)


def home_bits(book, saying):
    """The rooms in which a saying has forms, each as a bit of one integer."""
    return sum([1 << room for room, _ in known_forms(book, saying)])
