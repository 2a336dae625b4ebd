"""Texts of books (point [11])."""

from roomlooks.basics import LETTERS, is_name
from roomlooks.books import Book
from roomlooks.errors import InvalidBook, InvalidText
from roomlooks.spare import room_with

MOST_NAMES = 5


def read_book(text):
    """The book whose rooms are those of the lines of a text."""
    if not isinstance(text, str):
        raise InvalidText(-1)
    book = _book_of(text.split("\n"))
    if book is None:
        raise InvalidText(_refused_place(text))
    return book


def _words(line):
    return [word for word in line.split(" ") if word]


def _book_of(lines):
    """The book whose rooms are those of these lines, or None."""
    try:
        return Book(tuple([tuple(sorted(_words(line))) for line in lines]))
    except InvalidBook:
        return None


def _refused_place(text):
    """How many signs of a text some text of a book begins with."""
    # If a text of a book begins with so many signs, one begins with fewer of them, too.
    good, bad = 0, len(text) + 1
    while bad - good > 1:
        middle = (good + bad) // 2
        if _is_beginning(text[:middle]):
            good = middle
        else:
            bad = middle
    return good


def _is_beginning(text):
    """Whether some text of a book begins with a text."""
    lines = text.split("\n")
    book = _book_of(lines[:-1])
    if book is None and len(lines) > 1:
        return False
    last = lines[-1].split(" ")
    names = tuple(sorted([word for word in last[:-1] if word]))
    if not all([is_name(name) for name in names]) or len(set(names)) < len(names):
        return False
    if not last[-1]:
        return _may_stand(book, names)
    endings = _endings(book, names, last[-1])
    return any([_may_stand(book, tuple(sorted(names + (name,)))) for name in endings])


def _endings(book, names, part):
    """Names that begin with a part and may stand behind these: those of the book, and a new one."""
    known = [] if book is None else [name for name in book.outcomes() if name.startswith(part)]
    longer = [part] + [part + letter for letter in LETTERS]
    new = [name for name in longer if is_name(name) and name not in known and name not in names]
    return [name for name in known if name not in names] + new[:1]


def _may_stand(book, names):
    """Whether some room with a lot of names can stand behind a book, or first without a book."""
    if book is None:
        return len(names) <= MOST_NAMES
    return room_with(book, names) is not None


def show_book(book):
    """The text of a book with ascending names, one blank between two and no other blank."""
    return "\n".join([" ".join(room) for room in book.rooms])
