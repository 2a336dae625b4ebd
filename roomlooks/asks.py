"""Sayings that are asked in a house (point [76], and [77] for `order_gap`)."""

from roomlooks.basics import check_outcome
from roomlooks.looks import can_follow
from roomlooks.sayings import (
    check_saying,
    known_forms,
    known_opposite,
    known_together,
    written,
)
from roomlooks.tables import join, meet


def _check_two(book, one, other):
    check_saying(book, one)
    check_saying(book, other)


def ask(house, known, saying):
    """What is known after yes to a saying."""
    _check_two(house.book, known, saying)
    return meet(house, saying, join(house, known, known_opposite(house.book, saying)))


def enough_known(house, saying, wanted):
    """The saying that is known exactly if yes to `saying` leaves what implies `wanted`."""
    _check_two(house.book, saying, wanted)
    return join(house, known_opposite(house.book, saying), meet(house, saying, wanted))


def gentle_room(house, outcome, saying):
    """The least room in which yes to a saying leaves just what asking it leaves."""
    book = house.book
    check_outcome(book, outcome)
    asked = ask(house, (outcome,), saying)
    own = known_forms(book, saying)
    return [room for room, lot in own if _left(book, outcome, room, lot) == asked][0]


def _left(book, outcome, room, lot):
    return written(book, room, tuple([other for other in lot if can_follow(book, outcome, other)]))


def order_gap(house, one, other):
    """What is known after yes to two sayings in either order, or None if they stand together."""
    _check_two(house.book, one, other)
    if known_together(house.book, one, other):
        return None
    return (ask(house, one, other), ask(house, other, one))
