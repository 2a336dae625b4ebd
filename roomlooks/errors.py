"""The errors that the package raises."""


class RoomError(ValueError):
    """The base of all errors of this package."""


class InvalidBook(RoomError):
    """A value is no tuple of rooms of a book."""

    def __init__(self, at):
        self.at = at


class InvalidText(RoomError):
    """A value is no text of the form that is read."""

    def __init__(self, at):
        self.at = at


class InvalidSaying(RoomError):
    """A value is no saying as it is written."""

    def __init__(self, at):
        self.at = at


class InvalidTerm(RoomError):
    """A value is no term."""

    def __init__(self, at):
        self.at = at


class InvalidRing(RoomError):
    """A value is no written ring."""

    def __init__(self, at):
        self.at = at


class InvalidWeight(RoomError):
    """A value is no weight."""

    def __init__(self, at):
        self.at = at


class InvalidLook(RoomError):
    """A value is no row of looks or of told outcomes."""

    def __init__(self, at):
        self.at = at


class InvalidNumber(RoomError):
    """A value is no number within its bounds; the word names the parameter."""

    def __init__(self, word):
        self.word = word


class NoWeight(RoomError):
    """The book has no weight."""


class Refused(RoomError):
    """What is asked for cannot be had; the word tells why."""

    def __init__(self, word):
        self.word = word
