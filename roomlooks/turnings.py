"""Turnings of a book: the ways to carry it onto itself (point [42])."""

from math import factorial

from roomlooks.errors import Refused
from roomlooks.shapes import turning_from


def _turns(book):
    """For each room turnings that keep all rooms before it, one for each room that it can go to.

    Each turning of the rooms is one of the first, done after one of the second, and so on.
    """
    rooms = tuple(range(len(book.rooms)))
    found = []
    for room in rooms:
        turns = [turning_from(book, rooms[:room + 1], rooms[:room] + (image,)) for image in rooms[room:]]
        found.append([turn for turn in turns if turn is not None])
    return found


def _count(turns):
    many = 1
    for row in turns:
        many = many * len(row)
    return many


def room_turnings(book, *, most=200):
    """All tuples of rooms to which a turning carries the rooms, ascending."""
    turns = _turns(book)
    if _count(turns) > most:
        raise Refused("wide")
    found = [tuple(range(len(book.rooms)))]
    for row in turns:
        found = [tuple([first[room] for room in later]) for first in found for later in row]
    return tuple(sorted(found))


def count_turnings(book):
    """How many turnings there are."""
    many = _count(_turns(book))
    shared = book.shared()
    for room in book.rooms:
        many = many * factorial(len([outcome for outcome in room if outcome not in shared]))
    return many
