"""What the tests share: strict comparison, calls in every allowed way, and odd values."""

import copy
import inspect
import unittest

from roomlooks.books import Book
from roomlooks.errors import RoomError


class Thing:
    """An object of a class that the package does not know, with any attributes."""

    def __init__(self, **attributes):
        for name in attributes:
            setattr(self, name, attributes[name])


def odd_values():
    """Values of kinds that no function takes as a saying, a room, an outcome or a number."""
    return [
        None, True, False, 1.0, -1, 10 ** 30, "", "A", "a b", "abcdef", b"a", [], ["a"], {}, {"a": 1},
        {1}, frozenset(), object(), Thing(rooms=(), at=1, lot=("a",), room=0, parts=()), Thing,
        ((),), (((),),), ("a", None), (None,), (True,), ([],), (["a"],), ({},), (("a",),), (1.5, "a"),
        ((0, "a"),), (0, "a", 1), RoomError("a"), len, range(3),
    ]


def plain(value):
    """A value in which kinds can be told apart and objects of the package can be compared."""
    if isinstance(value, Book):
        return ("Book", plain(value.rooms))
    if isinstance(value, (tuple, list)):
        return (type(value).__name__,) + tuple([plain(item) for item in value])
    if isinstance(value, dict):
        return ("dict",) + tuple([(plain(key), plain(value[key])) for key in value])
    if type(value).__module__.startswith("roomlooks"):
        return (type(value).__name__,) + tuple([(n, plain(w)) for n, w in sorted(vars(value).items())])
    if isinstance(value, (int, str, bytes)):
        return (type(value).__name__, value)
    return (type(value).__name__,)


def end_of(function, args, kwargs):
    """What a call returns or which error of the package it raises, to be compared."""
    try:
        return ("returned", plain(function(*args, **kwargs)))
    except RoomError as error:
        return ("raised", type(error).__name__, plain(vars(error)))


def named(function, args, kwargs):
    """The same arguments by the names of the parameters."""
    return dict(inspect.signature(function).bind(*args, **kwargs).arguments)


class Case(unittest.TestCase):
    """A test case with calls by position and by name, made again, with arguments left alone."""

    def end(self, function, args, kwargs):
        before = plain([list(args), kwargs])
        end = end_of(function, args, kwargs)
        self.assertEqual(plain([list(args), kwargs]), before, (function, args, kwargs))
        self.assertEqual(end_of(function, (), named(function, args, kwargs)), end)
        self.assertEqual(end_of(function, args, kwargs), end)
        return end

    def gives(self, result, function, *args, **kwargs):
        self.assertEqual(self.end(function, args, kwargs), ("returned", plain(result)), (function, args, kwargs))

    def fails(self, error, function, *args, **kwargs):
        wanted = ("raised", type(error).__name__, plain(vars(error)))
        self.assertEqual(self.end(function, args, kwargs), wanted, (function, args, kwargs))

    def unchanged_by_changes(self, function, *args):
        """A dict that was returned may be changed without effect on later calls."""
        first = function(*args)
        kept = copy.deepcopy(first)
        first.clear()
        self.assertEqual(function(*args), kept)
