"""Books of rooms (points [6] to [8])."""

from roomlooks.basics import is_ascending, is_name
from roomlooks.errors import InvalidBook, Refused

MOST_ROOMS = 10
MOST_OUTCOMES = 24


class Book:
    """A tuple of 1 to 10 rooms, no two of which have two outcomes in common."""

    def __init__(self, rooms):
        if not isinstance(rooms, tuple) or not 1 <= len(rooms) <= MOST_ROOMS:
            raise InvalidBook(-1)
        for at, room in enumerate(rooms):
            if not _is_room(room) or _crosses_twice(room, rooms[:at]):
                raise InvalidBook(at)
        homes = _homes_of(rooms)
        if len(homes) > MOST_OUTCOMES:
            raise InvalidBook(len(rooms))
        self.rooms = rooms
        self._homes = homes

    def __eq__(self, other):
        return isinstance(other, Book) and self.rooms == other.rooms

    def outcomes(self):
        """The lot of the outcomes of all rooms."""
        return tuple(sorted(self._homes))

    def shared(self):
        """The lot of the outcomes that belong to two rooms or more."""
        return tuple([outcome for outcome in self.outcomes() if len(self._homes[outcome]) > 1])

    def rooms_of(self, outcome):
        """The ascending numbers of the rooms that have any value as an outcome."""
        if not isinstance(outcome, str):
            return ()
        return self._homes.get(outcome, ())

    def room_of_two(self, one, other):
        """The number of the first room that has both values as outcomes, or None."""
        homes = self.rooms_of(other)
        for room in self.rooms_of(one):
            if room in homes:
                return room
        return None


def _is_room(value):
    if not isinstance(value, tuple) or not 3 <= len(value) <= 5:
        return False
    return all([is_name(item) for item in value]) and is_ascending(value)


def _crosses_twice(room, earlier):
    return any([len(_common(room, other)) > 1 for other in earlier])


def _common(room, other):
    return [outcome for outcome in room if outcome in other]


def _homes_of(rooms):
    homes = {}
    for number, room in enumerate(rooms):
        for outcome in room:
            homes[outcome] = homes.get(outcome, ()) + (number,)
    return homes


def crossings(book):
    """All triples (room, later, outcome) of two rooms and the outcome that both have, ascending."""
    found = []
    for room, one in enumerate(book.rooms):
        for later in range(room + 1, len(book.rooms)):
            found.extend([(room, later, outcome) for outcome in _common(one, book.rooms[later])])
    return tuple(found)


def renamed(book, names):
    """The book in which every outcome has its name in a dict."""
    used = [names[outcome] for outcome in book.outcomes()]
    if len(set(used)) < len(used):
        raise Refused("names")
    rooms = [tuple(sorted([names[outcome] for outcome in room])) for room in book.rooms]
    return Book(tuple(rooms))
