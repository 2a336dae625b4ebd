"""Books that change while looks are done in them (points [98] and [99])."""

from roomlooks.basics import is_look
from roomlooks.edits import book_with, without_room
from roomlooks.errors import InvalidLook, Refused
from roomlooks.looks import follows, sure_after
from roomlooks.rings import short_rings
from roomlooks.sayings import whole
from roomlooks.verdicts import court


class Live:
    """A book that changes, and the looks that are done in it."""

    def __init__(self, book):
        self._book = book
        # Looks keep their rooms while numbers change, so pairs (outcomes of the room, outcome) are kept.
        self._done = ()
        # The books and looks before each change and each look, the last one behind.
        self._past = ()

    def present(self):
        """The book as it is now."""
        return self._book

    def looks(self):
        """The run of the looks done so far, with the present numbers of rooms."""
        return tuple([(self._book.rooms.index(room), outcome) for room, outcome in self._done])

    def changes(self):
        """How many changes and looks can be taken back."""
        return len(self._past)

    def short_rings(self):
        """The rings of three rooms, then those of four."""
        return short_rings(self._book)

    def put_room(self, room, *, at=None):
        """Put a room in; the short rings that go through it are returned."""
        book = book_with(self._book, room, at=at)
        row = [outcome for _, outcome in self._done]
        if any([not follows(book, row[k - 1], row[k]) for k in range(1, len(row))]):
            raise Refused("looks")
        self._go_on(book, self._done)
        return _rings_through(book, book.rooms.index(room))

    def take_room(self, room):
        """Take a room out; the short rings that went through it are returned."""
        old = self._book
        book = without_room(old, room)
        if any([home == old.rooms[room] for home, _ in self._done]):
            raise Refused("looks")
        self._go_on(book, self._done)
        return _rings_through(old, room)

    def undo(self):
        """Take back the last change or look."""
        if not self._past:
            raise Refused("undo")
        self._book, self._done = self._past[-1]
        self._past = self._past[:-1]

    def look(self, room, outcome):
        """Do a look."""
        many = len(self._done)
        if not is_look(self._book, (room, outcome)):
            raise InvalidLook(many)
        if self._done and not follows(self._book, self._done[-1][1], outcome):
            raise InvalidLook(many)
        self._go_on(self._book, self._done + ((self._book.rooms[room], outcome),))

    def sure(self):
        """The sayings that are sure now, in order."""
        return sure_after(self._book, self._done[-1][1]) if self._done else (whole(self._book),)

    def next_outcomes(self):
        """The outcomes that a next look may have, ascending."""
        names = self._book.outcomes()
        if not self._done:
            return names
        return tuple([name for name in names if follows(self._book, self._done[-1][1], name)])

    def verdict(self):
        """The House of the book, or the Torn of its first short ring."""
        return court(self._book)

    def mending(self):
        """The numbers of the rooms that all short rings go through, ascending."""
        rings = [[room for room, _ in ring] for ring in short_rings(self._book)]
        return tuple([room for room in range(len(self._book.rooms)) if all([room in ring for ring in rings])])

    def _go_on(self, book, done):
        """Have a book and looks from now on, which can be taken back."""
        self._past = self._past + ((self._book, self._done),)
        self._book = book
        self._done = done


def _rings_through(book, room):
    """The short rings of a book that go through a room."""
    return tuple([ring for ring in short_rings(book) if any([room == other for other, _ in ring])])
