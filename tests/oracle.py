"""The words of the document, done as plainly as possible, to compare the program with."""

from functools import lru_cache
from itertools import combinations, permutations, product


class Model:
    """All sayings of a tuple of rooms, by their forms (points [2] and [12])."""

    def __init__(self, rooms):
        self.rooms = rooms
        self.classes = {}
        for number, room in enumerate(rooms):
            for size in range(len(room) + 1):
                for lot in combinations(room, size):
                    self.classes.setdefault(self.key(number, lot), []).append((number, lot))
        written = [self.write(forms) for forms in self.classes.values()]
        self.forms = dict(zip(written, [tuple(sorted(forms)) for forms in self.classes.values()]))
        self.sayings = sorted(written, key=lambda lot: (len(lot), lot))
        self.all = rooms[0]
        self.joins, self.meets = {}, {}
        self.lots = {saying: {room: set(lot) for room, lot in self.forms[saying]} for saying in self.sayings}

    def key(self, number, lot):
        rest = [name for name in self.rooms[number] if name not in lot]
        if not lot:
            return "none"
        if not rest:
            return "all"
        if len(lot) == 1:
            return ("only", lot[0])
        if len(rest) == 1:
            return ("but", rest[0])
        return (number, lot)

    def write(self, forms):
        return min(forms)[1]

    def saying(self, number, lot):
        return self.write(self.classes[self.key(number, lot)])

    def opposite(self, saying):
        number, lot = self.forms[saying][-1]
        return self.saying(number, tuple([name for name in self.rooms[number] if name not in lot]))

    def together(self, one, other):
        return tuple([room for room in self.lots[one] if room in self.lots[other]])

    def implies(self, one, other):
        own, later = self.lots[one], self.lots[other]
        return any([room in later and own[room] <= later[room] for room in own])

    def up(self, saying):
        return [other for other in self.sayings if self.implies(saying, other)]

    def down(self, saying):
        return [other for other in self.sayings if self.implies(other, saying)]

    def excludes(self, one, other):
        return self.implies(one, self.opposite(other))

    def join(self, one, other):
        """The join by point [23], None if there is none."""
        if (one, other) not in self.joins:
            uppers = [s for s in self.sayings if self.implies(one, s) and self.implies(other, s)]
            least = [s for s in uppers if all([self.implies(s, upper) for upper in uppers])]
            assert len(least) < 2
            self.joins[one, other] = least[0] if least else None
        return self.joins[one, other]

    def meet(self, one, other):
        if (one, other) not in self.meets:
            lowers = [s for s in self.sayings if self.implies(s, one) and self.implies(s, other)]
            greatest = [s for s in lowers if all([self.implies(lower, s) for lower in lowers])]
            assert len(greatest) < 2
            self.meets[one, other] = greatest[0] if greatest else None
        return self.meets[one, other]


def rings(rooms, size):
    """The written rings of so many rooms, by the words of points [3] and [20]."""
    found = []
    for row in permutations(range(len(rooms)), size):
        if row[0] != min(row) or row[1] > row[-1]:
            continue
        common = [set(rooms[row[k]]) & set(rooms[row[(k + 1) % size]]) for k in range(size)]
        for outcomes in product(*common):
            if len(set(outcomes)) == size:
                found.append(tuple(zip(row, outcomes)))
    return tuple(sorted(found))


def short_rings_of(rooms):
    return rings(rooms, 3) + rings(rooms, 4)


@lru_cache(maxsize=None)
def settings(rooms):
    """All settings as pairs (choices, setting), in order."""
    found = []
    for chosen in product(*rooms):
        lot = set(chosen)
        if all([len(lot & set(room)) == 1 for room in rooms]):
            found.append((chosen, tuple(sorted(lot))))
    assert found == sorted(found)
    return found


def ways(rooms, one, other, size):
    """All ways of so many rooms between two outcomes (the opening of chapter 14)."""
    found = []

    def go(way, at):
        if len(way) == size:
            if at == other:
                found.append(way)
            return
        for number, room in enumerate(rooms):
            if at in room and number not in [passed for passed, _ in way]:
                for outcome in room:
                    if outcome != one and outcome not in [name for _, name in way]:
                        go(way + ((number, outcome),), outcome)

    go((), one)
    return tuple(sorted(found))


def far(rooms):
    """The least numbers of rooms of ways between outcomes, by the rule of Floyd and Warshall."""
    names = sorted(set([name for room in rooms for name in room]))
    table = {(a, b): 0 if a == b else None for a in names for b in names}
    for room in rooms:
        table.update({(a, b): 1 for a in room for b in room if a != b})
    for middle in names:
        for a in names:
            for b in names:
                first, second = table[a, middle], table[middle, b]
                if first is not None and second is not None:
                    if table[a, b] is None or first + second < table[a, b]:
                        table[a, b] = first + second
    return table
