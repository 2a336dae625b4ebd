"""Shapes of books: what is left of them without names and without the sequence of their rooms.

Rooms get *colours*, numbers from 0 on, which tell apart what the shape tells apart. Rooms that are
*chosen*, one after another, get colours of their own.
"""


def _colours(book, chosen):
    """The colours of all rooms: by size and place among the chosen ones, then by the neighbours."""
    keys = [(_place(chosen, room), len(outcomes)) for room, outcomes in enumerate(book.rooms)]
    colours = _ranks(keys)
    while True:
        keys = [(colours[room], _around(book, colours, room)) for room in range(len(colours))]
        later = _ranks(keys)
        if max(later) == max(colours):
            return colours
        colours = later


def _place(chosen, room):
    return chosen.index(room) if room in chosen else len(chosen)


def _ranks(keys):
    """For each key its place among all unlike ones."""
    ordered = sorted(set(keys))
    return [ordered.index(key) for key in keys]


def _around(book, colours, room):
    """For each outcome of a room the colours of all rooms that have it, ascending."""
    homes = [book.rooms_of(outcome) for outcome in book.rooms[room]]
    return tuple(sorted([tuple(sorted([colours[home] for home in own])) for own in homes]))


def _first_cell(colours):
    """The rooms of the least colour that several rooms have; none if all rooms are told apart."""
    doubled = [colour for colour in colours if colours.count(colour) > 1]
    return [room for room, colour in enumerate(colours) if colour == min(doubled)] if doubled else []


def _coded(book, colours):
    """For each outcome the colours of its rooms, and the outcome, ascending."""
    homes = [(book.rooms_of(outcome), outcome) for outcome in book.outcomes()]
    return sorted([(tuple(sorted([colours[room] for room in own])), outcome) for own, outcome in homes])


def _code(book, colours):
    return [code for code, _ in _coded(book, colours)]


def turning_from(book, chosen, images):
    """Some turning, as the tuple of the images of all rooms, that takes the chosen rooms to images.

    None is returned if there is no such turning.
    """
    colours, others = _colours(book, chosen), _colours(book, images)
    if sorted(colours) != sorted(others):
        return None
    cell = _first_cell(colours)
    if not cell:
        # All rooms are told apart, so their colours tell the only turning that there can be.
        fits = _code(book, colours) == _code(book, others)
        return tuple([others.index(colour) for colour in colours]) if fits else None
    for room, colour in enumerate(others):
        if colour == colours[cell[0]]:
            found = turning_from(book, chosen + (cell[0],), images + (room,))
            if found is not None:
                return found
    return None


def _unlike_rooms(book, chosen, cell):
    """Those rooms of a cell to which no turning that keeps the chosen ones takes an earlier one."""
    found = []
    for room in cell:
        turns = [turning_from(book, chosen + (other,), chosen + (room,)) for other in found]
        if not any([turn is not None for turn in turns]):
            found.append(room)
    return found


def shape_of(book):
    """The same rows for all books of one shape, and the outcomes, one for each row.

    A row has the numbers that the shape gives to the rooms of the outcome.
    """
    coded = _least_coded(book, ())
    return ([code for code, _ in coded], [outcome for _, outcome in coded])


def _least_coded(book, chosen):
    colours = _colours(book, chosen)
    cell = _first_cell(colours)
    if not cell:
        return _coded(book, colours)
    found = [_least_coded(book, chosen + (room,)) for room in _unlike_rooms(book, chosen, cell)]
    codes = [[code for code, _ in coded] for coded in found]
    return found[codes.index(min(codes))]
