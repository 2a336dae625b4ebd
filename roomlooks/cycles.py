"""Books whose rooms all stand in one ring, and blends of their weights (point [94])."""

from roomlooks.basics import LETTERS, is_number_within
from roomlooks.books import MOST_OUTCOMES, Book
from roomlooks.errors import InvalidNumber, Refused
from roomlooks.fractions import common_bottom, fraction_of, is_fraction, sum_of
from roomlooks.rings import neighbours
from roomlooks.settings import is_setting, setting_of
from roomlooks.trees import pieces
from roomlooks.weights import check_weight


def _round(book):
    """The pairs of a ring book from room 0 on, the lesser neighbour next; None for other books.

    Each pair is a room and the outcome that it shares with the next room.
    """
    links = [neighbours(book, room) for room in range(len(book.rooms))]
    if any([len(own) != 2 for own in links]) or len(book.shared()) != len(links) or len(pieces(book)) > 1:
        return None
    pairs = [(0, links[0][0][1])]
    room = links[0][0][0]
    while room != 0:
        ahead = [link for link in links[room] if link[1] != pairs[-1][1]][0]
        pairs.append((room, ahead[1]))
        room = ahead[0]
    return pairs


def ring_sizes(book):
    """The numbers of outcomes of the rooms of a ring book, round the ring; None for other books."""
    pairs = _round(book)
    return None if pairs is None else tuple([len(book.rooms[room]) for room, _ in pairs])


def _check_sizes(sizes):
    if not isinstance(sizes, tuple) or not 3 <= len(sizes) <= 10:
        raise InvalidNumber("sizes")
    if not all([is_number_within(size, 3, 5) for size in sizes]):
        raise InvalidNumber("sizes")


def ring_book(sizes):
    """Some ring book whose rooms, numbered round the ring, have these numbers of outcomes."""
    _check_sizes(sizes)
    many = len(sizes)
    if sum(sizes) - many > MOST_OUTCOMES:
        raise Refused("wide")
    rooms, free = [], LETTERS[many:]
    for at, size in enumerate(sizes):
        rooms.append(tuple(sorted(LETTERS[(at - 1) % many] + LETTERS[at] + free[:size - 2])))
        free = free[size - 2:]
    return Book(tuple(rooms))


def ring_settings(sizes):
    """How many settings a ring book with rooms of these sizes has."""
    _check_sizes(sizes)
    # The rows of the product of the tables ((n - 2, 1), (1, 0)).
    top, low = (1, 0), (0, 1)
    for size in sizes:
        top = (top[0] * (size - 2) + top[1], top[0])
        low = (low[0] * (size - 2) + low[1], low[0])
    return top[0] + low[1]


def _ring_of(book):
    pairs = _round(book)
    if pairs is None:
        raise Refused("ring")
    return pairs


def half_weight(book):
    """The weight of a ring book that gives 1/2 to each shared outcome."""
    _ring_of(book)
    shared = book.shared()
    return tuple([(1, 2) if outcome in shared else (0, 1) for outcome in book.outcomes()])


def ring_blend(book, weight):
    """Some blend of a weight of a ring book, or None if there is none."""
    pairs = _ring_of(book)
    check_weight(book, weight)
    unit = common_bottom(weight)
    # From here on all shares are integers, and the circle has the length of their unit.
    parts = {name: top * (unit // bottom) for name, (top, bottom) in zip(book.outcomes(), weight)}
    spare = len(pairs) // 2 * unit - sum([parts[outcome] for outcome in book.shared()])
    if spare < 0:
        return None
    cuts = _circle_pieces(_begins(pairs, parts, unit, spare), parts, unit)
    for room in book.rooms:
        own = [(parts[name], name) for name in room if len(book.rooms_of(name)) == 1 and parts[name]]
        cuts = _with_own(cuts, room, own)
    lengths = {}
    for length, lot in cuts:
        setting = setting_of(lot)
        lengths[setting] = lengths.get(setting, 0) + length
    return tuple([(fraction_of(lengths[setting], unit), setting) for setting in lengths])


def _begins(pairs, parts, unit, spare):
    """A dict from each shared outcome to where its arc begins on the circle.

    The arcs follow one another round the ring, with distances between them that sum to what is
    spare, so that they and the arcs come to an integer. No distance is more than what the shares
    of two neighbours leave of the circle, so these never meet.
    """
    found, place = {}, 0
    for at, pair in enumerate(pairs):
        own, later = pair[1], pairs[at + 1 - len(pairs)][1]
        found[own] = place
        gap = min(spare, unit - parts[own] - parts[later])
        spare = spare - gap
        place = (place + parts[own] + gap) % unit
    return found


def _circle_pieces(begins, parts, unit):
    """Pairs of the length of a piece of the circle and the shared outcomes whose arcs cover it."""
    ends = [(begins[outcome] + parts[outcome]) % unit for outcome in begins]
    # The first arc begins at 0, where the circle begins, too.
    cuts = sorted(set([unit] + list(begins.values()) + ends))
    found = []
    for at in range(1, len(cuts)):
        start = cuts[at - 1]
        lot = [outcome for outcome in begins if (start - begins[outcome]) % unit < parts[outcome]]
        found.append((cuts[at] - start, tuple(lot)))
    return found


def _with_own(cuts, room, left):
    """The pieces, cut so that each without an outcome of a room gets one of those that are left.

    What is left are pairs (part, outcome) of the outcomes that only this room has.
    """
    found = []
    for length, lot in cuts:
        if any([outcome in room for outcome in lot]):
            found.append((length, lot))
        else:
            cut, left = _cut(length, left)
            found.extend([(part, lot + (name,)) for part, name in cut])
    return found


def _cut(length, left):
    """The first of some parts, so many that they come to a length, and the parts left behind it."""
    found = []
    while length:
        part, name = left[0]
        step = min(length, part)
        found.append((step, name))
        length = length - step
        left = left[1:] if step == part else [(part - step, name)] + left[1:]
    return (found, left)


def ring_blend_holds(book, weight, value):
    """Whether any value is a blend of a weight of a ring book."""
    _ring_of(book)
    check_weight(book, weight)
    if not isinstance(value, tuple) or not all([_is_part(book, item) for item in value]):
        return False
    if len(set([setting for _, setting in value])) < len(value):
        return False
    sums = [sum_of([part for part, setting in value if name in setting]) for name in book.outcomes()]
    return tuple(sums) == weight


def _is_part(book, item):
    """Whether any value is a pair of a fraction above 0 and a setting."""
    if not isinstance(item, tuple) or len(item) != 2:
        return False
    part, setting = item
    return is_fraction(part) and part[0] > 0 and is_setting(book, setting)
