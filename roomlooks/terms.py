"""Terms in postfix: their texts, values, and `not` moved inwards (points [30] to [32])."""

from roomlooks.basics import LETTERS
from roomlooks.errors import InvalidTerm, InvalidText, Refused
from roomlooks.sayings import NONE, known_opposite, whole
from roomlooks.tables import join, meet

MOST_ITEMS = 99
CAPITALS = "ABCDEFGHIJKLMNOPQRSTUVWXYZ"
# What `not` makes of a word.
TURNED = {"none": "all", "all": "none", "and": "or", "or": "and"}
# How tightly words bind in a text; what stands alone binds tightest.
BINDING = {"or": 0, "and": 1, "not": 2}
ALONE = 3
OPENING = "("
CLOSING = ")"


def is_letter(item):
    """Whether any value is a letter of terms."""
    return isinstance(item, str) and len(item) == 1 and item in CAPITALS


def _is_start(item):
    """Whether any value is a term of one item."""
    return is_letter(item) or (isinstance(item, str) and item in ("none", "all"))


def check_term(value):
    """Raise InvalidTerm unless any value is a term, or Refused if only its length is wrong."""
    if not isinstance(value, tuple):
        raise InvalidTerm(-1)
    # How many terms stand in a row that no later item has put together yet.
    terms = 0
    for at, item in enumerate(value):
        if _is_start(item):
            terms = terms + 1
        elif isinstance(item, str) and item in ("and", "or") and terms > 1:
            terms = terms - 1
        elif not isinstance(item, str) or item != "not" or terms < 1:
            raise InvalidTerm(at)
    if terms != 1:
        raise InvalidTerm(len(value))
    _check_length(value)


def _check_length(term):
    if len(term) > MOST_ITEMS:
        raise Refused("long")


def _marks(text):
    """Pairs (place, mark) of a text: brackets, longest runs of letters, other signs but blanks."""
    found = []
    start = 0
    for at, sign in enumerate(text):
        if not _is_word_sign(sign):
            start = at + 1
            if sign != " ":
                found.append((at, sign))
        elif at == len(text) - 1 or not _is_word_sign(text[at + 1]):
            found.append((start, text[start:at + 1]))
    return found


def _is_word_sign(sign):
    return sign in CAPITALS or sign in LETTERS


def read_term(text):
    """The term of a text."""
    if not isinstance(text, str):
        raise InvalidText(-1)
    term, waiting = [], []
    # Whether the next mark begins a term; otherwise it stands behind one.
    begins = True
    for at, mark in _marks(text):
        if not _may_stand(mark, begins, waiting):
            raise InvalidText(at)
        if _is_start(mark):
            term.append(mark)
        elif mark == CLOSING:
            _put_waiting(term, waiting, BINDING["or"])
            waiting.pop()
        else:
            if mark in ("and", "or"):
                _put_waiting(term, waiting, BINDING[mark])
            waiting.append(mark)
        begins = mark in (OPENING, "not", "and", "or")
    if begins or OPENING in waiting:
        raise InvalidText(len(text))
    _put_waiting(term, waiting, BINDING["or"])
    _check_length(term)
    return tuple(term)


def _may_stand(mark, begins, waiting):
    """Whether a mark may stand where a term begins, or behind one."""
    if begins:
        return _is_start(mark) or mark in ("not", OPENING)
    return mark in ("and", "or") or (mark == CLOSING and OPENING in waiting)


def _put_waiting(term, waiting, binding):
    """Move the words that wait since the last open bracket and bind so tightly into the term."""
    while waiting and waiting[-1] != OPENING and BINDING[waiting[-1]] >= binding:
        term.append(waiting.pop())


def show_term(term):
    """The text of a term with the fewest brackets."""
    shown = []
    for item in term:
        if _is_start(item):
            shown.append((item, ALONE))
        elif item == "not":
            text = _in_brackets(shown.pop(), BINDING["not"])
            shown.append(("not " + text, BINDING["not"]))
        else:
            # Behind the word, what binds as tightly would be read with the term before it.
            right = _in_brackets(shown.pop(), BINDING[item] + 1)
            left = _in_brackets(shown.pop(), BINDING[item])
            shown.append((left + " " + item + " " + right, BINDING[item]))
    return shown[0][0]


def _in_brackets(part, binding):
    """A text, in brackets unless it binds at least so tightly."""
    text, own = part
    return text if own >= binding else OPENING + text + CLOSING


def value_of(house, term, given):
    """The value of a term, for a dict from letters to sayings."""
    return worked(house, term, given)[-1]


def worked(house, term, given):
    """The values of the terms that end at each item."""
    if any([is_letter(item) and item not in given for item in term]):
        raise Refused("letter")
    values, waiting = [], []
    for item in term:
        if is_letter(item):
            value = given[item]
        elif item in ("none", "all"):
            value = NONE if item == "none" else whole(house.book)
        elif item == "not":
            value = known_opposite(house.book, waiting.pop())
        else:
            later = waiting.pop()
            value = _combined(house, item, waiting.pop(), later)
        waiting.append(value)
        values.append(value)
    return tuple(values)


def _combined(house, word, one, other):
    return meet(house, one, other) if word == "and" else join(house, one, other)


def pushed(term):
    """The term in which `not` stands only behind letters, with the same value in all houses."""
    # Each term in a row is kept as it is moved inwards, beside what `not` makes of it.
    pairs = []
    for item in term:
        if is_letter(item):
            pairs.append(((item,), (item, "not")))
        elif item in ("none", "all"):
            pairs.append(((item,), (TURNED[item],)))
        elif item == "not":
            plain, opposite = pairs.pop()
            pairs.append((opposite, plain))
        else:
            later = pairs.pop()
            plain, opposite = pairs.pop()
            pairs.append((plain + later[0] + (item,), opposite + later[1] + (TURNED[item],)))
    found = pairs[0][0]
    _check_length(found)
    return found
