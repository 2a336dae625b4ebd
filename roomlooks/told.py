"""Orders of sayings told by numbers, and the books that are told back from them (points [39] and [40])."""

from roomlooks.basics import LETTERS, is_ascending, is_number, is_number_within
from roomlooks.books import MOST_OUTCOMES, Book
from roomlooks.errors import InvalidBook, InvalidNumber, Refused
from roomlooks.lots import outcomes_under
from roomlooks.orders import implied
from roomlooks.rings import rings_of
from roomlooks.sayings import all_sayings, known_opposite


class Order:
    """For each number of a saying those that it implies, and its opposite."""

    def __init__(self, ups, opposites):
        self.ups = ups
        self.opposites = opposites


def order_of(book, numbers):
    """The order in which the sayings of a book, one after another, have these numbers."""
    sayings = all_sayings(book)
    if not isinstance(numbers, tuple) or not all([is_number(item) for item in numbers]):
        raise InvalidNumber("numbers")
    if sorted(numbers) != list(range(len(sayings))):
        raise InvalidNumber("numbers")
    number_of = dict(zip(sayings, numbers))
    ups, opposites = [], []
    for _, saying in sorted(zip(numbers, sayings)):
        ups.append(tuple(sorted([number_of[other] for other in implied(book, saying)])))
        opposites.append(number_of[known_opposite(book, saying)])
    return Order(tuple(ups), tuple(opposites))


def told_back(order):
    """Some book without rings of three that has an order, and the saying of each number."""
    if not _has_form(order):
        raise Refused("order")
    atoms = _atoms(order)
    book = _book_of(order, atoms)
    # Without rings of three no two sayings have the same outcomes below them.
    if book is None or rings_of(book, 3):
        raise Refused("order")
    by_names = {outcomes_under(book, saying): saying for saying in all_sayings(book)}
    names = [_names_under(order, atoms, number) for number in range(len(order.ups))]
    sayings = tuple([by_names.get(lot) for lot in names])
    if len(sayings) != len(by_names) or len(set(sayings)) < len(sayings) or None in sayings:
        raise Refused("order")
    if not _fits(order, book, sayings):
        raise Refused("order")
    return (book, sayings)


def _has_form(order):
    """Whether any value is an order whose attributes are tuples of its numbers."""
    if not isinstance(order, Order) or not isinstance(order.ups, tuple) or not isinstance(order.opposites, tuple):
        return False
    many = len(order.ups)
    if len(order.opposites) != many or not _are_numbers(order.opposites, many):
        return False
    return all([_are_numbers(row, many) and is_ascending(row) for row in order.ups])


def _are_numbers(value, many):
    return isinstance(value, tuple) and all([is_number_within(item, 0, many - 1) for item in value])


def _atoms(order):
    """The numbers that only one other number implies, as those of outcomes do."""
    counts = [0] * len(order.ups)
    for row in order.ups:
        for number in row:
            counts[number] = counts[number] + 1
    return [number for number in range(len(counts)) if counts[number] == 2]


def _book_of(order, atoms):
    """The book in which the atoms are outcomes, by place, or None if they are those of no book."""
    if len(atoms) > MOST_OUTCOMES:
        return None
    near = {atom: _near(order, atoms, atom) for atom in atoms}
    rooms = [_room_of(near, atom, other) for atom in atoms for other in near[atom]]
    try:
        return Book(tuple(sorted(set(rooms))))
    except InvalidBook:
        return None


def _near(order, atoms, atom):
    """The atoms that an atom excludes, as unlike outcomes of one room do."""
    return [other for other in atoms if order.opposites[other] in order.ups[atom]]


def _room_of(near, atom, other):
    """The names of the room of two atoms: the two, and all that are near both."""
    lot = [third for third in near if third in (atom, other) or (third in near[atom] and third in near[other])]
    return tuple([LETTERS[at] for at, third in enumerate(near) if third in lot])


def _names_under(order, atoms, number):
    """The names of the atoms that imply a number."""
    return tuple([LETTERS[at] for at, atom in enumerate(atoms) if number in order.ups[atom]])


def _fits(order, book, sayings):
    """Whether the order is that of the book if its numbers stand for these sayings."""
    made = order_of(book, tuple([sayings.index(saying) for saying in all_sayings(book)]))
    return (made.ups, made.opposites) == (order.ups, order.opposites)
