"""Claims: what they say is checked, carried to other books, and put together (point [100])."""

from roomlooks.alike import carries
from roomlooks.apart import check_block_plan, check_bound
from roomlooks.bent import check_straightness
from roomlooks.bounds import check_full, check_greatest, check_least
from roomlooks.cases import Cases, check_cases, some_setting
from roomlooks.colours import check_colours
from roomlooks.completed import check_completed
from roomlooks.corners import check_corner_blend
from roomlooks.edits import extends, rewritten, ring_over
from roomlooks.enough import check_enough
from roomlooks.errors import InvalidLook, InvalidRing, InvalidWeight
from roomlooks.grown import check_room_growth
from roomlooks.kept import check_left
from roomlooks.kinds import check_unlike
from roomlooks.machines import check_run
from roomlooks.marks import Marks, OddRooms, check_marks
from roomlooks.mends import check_cheapest, check_needed
from roomlooks.mixtures import check_mixture
from roomlooks.parted import check_comparison
from roomlooks.pictures import check_between, check_pictured
from roomlooks.reaches import check_reach
from roomlooks.rings import check_ring, shortest_ring
from roomlooks.settings import is_setting
from roomlooks.spread import is_triple_reason
from roomlooks.trees import check_room_order, room_order
from roomlooks.uppers import is_join, is_meet
from roomlooks.verdicts import House, Torn, check_verdict, court
from roomlooks.weights import Weightless, check_some, check_weight, some_weight
from roomlooks.zigzags import is_zigzag

# The words of functions that return None, and raise an error for a claim that does not hold.
RAISING = ("reach", "ring", "run", "weight")
# The words of claims that may tell of other books.
CARRIED = ("cases", "marks", "order", "ring", "setting", "some", "verdict")
MOST_ARGUMENTS = 5


def _functions(many):
    """A dict from the words of claims with so many arguments to their functions."""
    if many == 2:
        return {
            "bound": check_bound, "colours": check_colours, "enough": check_enough, "full": check_full,
            "marks": check_marks, "order": check_room_order, "pictured": check_pictured,
            "plan": check_block_plan, "ring": check_ring, "run": check_run, "setting": is_setting,
            "some": check_some, "straight": check_straightness, "verdict": check_verdict,
            "weight": check_weight, "zigzag": is_zigzag,
        }
    if many == 3:
        return {
            "alike": carries, "blend": check_corner_blend, "cases": check_cases,
            "completed": check_completed, "greatest": check_greatest, "growth": check_room_growth,
            "least": check_least, "left": check_left, "mixture": check_mixture, "needed": check_needed,
            "unlike": check_unlike,
        }
    if many == 4:
        return {
            "ahead": check_comparison, "between": check_between, "cheapest": check_cheapest,
            "join": is_join, "meet": is_meet, "reach": check_reach,
        }
    return {"triple": is_triple_reason} if many == 5 else {}


def words():
    """The words of all claims, ascending."""
    return tuple(sorted([word for many in range(MOST_ARGUMENTS + 1) for word in _functions(many)]))


def check(claim):
    """Whether any value is a claim that holds."""
    if not isinstance(claim, tuple) or not claim or not isinstance(claim[0], str):
        return False
    functions, arguments = _functions(len(claim) - 1), claim[1:]
    if claim[0] not in functions:
        return False
    function = functions[claim[0]]
    if claim[0] not in RAISING:
        return function(*arguments)
    try:
        function(*arguments)
    except (InvalidLook, InvalidRing, InvalidWeight):
        return False
    return True


def carried(claim, book):
    """A claim of another book with the same word, which a claim that holds shows; None if there is none."""
    if claim[0] not in CARRIED:
        return None
    old, value, found = claim[1], claim[-1], None
    if extends(book, old):
        found = _put_over(claim[0], old, book, value)
    if found is None and extends(old, book):
        found = _cut_down(claim[0], old, book, value)
    return None if found is None else (claim[0], book) + claim[2:-1] + (found,)


def _put_over(word, old, book, value):
    """What a claim tells, as a book with more rooms numbers and writes it; None if it tells nothing there."""
    numbers = {book.rooms.index(outcomes): room for room, outcomes in enumerate(old.rooms)}
    if word == "ring":
        return ring_over(old, book, value)
    if word == "cases":
        return _cases_over(old, book, value, {})
    if isinstance(value, Torn):
        sayings = (value.one, value.other, value.first, value.second)
        one, other, first, second = [rewritten(old, book, saying) for saying in sayings]
        return Torn(ring_over(old, book, value.ring), one, other, first, second)
    if isinstance(value, Weightless):
        rooms = range(len(book.rooms))
        return Weightless(tuple([value.numbers[numbers[room]] if room in numbers else 0 for room in rooms]))
    if isinstance(value, OddRooms):
        return OddRooms(tuple([room for room in sorted(numbers) if numbers[room] in value.rooms]))
    return None


def _cases_over(old, book, value, known):
    """A Cases with the numbers of a book with more rooms; `known` keeps what is made of each."""
    if value not in known:
        parts = [None if part is None else _cases_over(old, book, part, known) for part in value.parts]
        known[value] = Cases(book.rooms.index(old.rooms[value.room]), tuple(parts))
    return known[value]


def _cut_down(word, old, book, value):
    """What a claim tells of a book with fewer rooms; None if it tells nothing there."""
    if word == "order":
        kept = [old.rooms[room] for room in value if old.rooms[room] in book.rooms]
        return tuple([book.rooms.index(outcomes) for outcomes in kept])
    if word == "setting":
        return _lot_in(book, value)
    if word == "some" and not isinstance(value, Weightless):
        return tuple([part for name, part in zip(old.outcomes(), value) if book.rooms_of(name)])
    if isinstance(value, House):
        return House(book)
    return Marks(_lot_in(book, value.lot)) if isinstance(value, Marks) else None


def _lot_in(book, lot):
    return tuple([outcome for outcome in lot if book.rooms_of(outcome)])


def gather(book):
    """Four claims that hold: of the verdict, of rings, of weights and of settings."""
    order = room_order(book)
    ring = ("ring", book, shortest_ring(book)) if order is None else ("order", book, order)
    found = some_setting(book)
    setting = ("cases", book, (), found) if isinstance(found, Cases) else ("setting", book, found)
    return (("verdict", book, court(book)), ring, ("some", book, some_weight(book)), setting)


def concluded(book, claims):
    """The words, ascending, that those of any values show of a book which hold and are carried to it."""
    found = []
    for claim in claims:
        if check(claim) and carried(claim, book) is not None:
            found.extend(_shown(claim))
    return tuple(sorted(set(found)))


def _shown(claim):
    """The words that a claim shows, which is carried."""
    word, value = claim[0], claim[-1]
    if word == "verdict":
        return ["house"] if isinstance(value, House) else ["ringed", "torn"]
    if word == "order":
        return ["house", "ringless"]
    if word == "ring":
        return ["ringed", "torn"] if len(value) < 5 else ["ringed"]
    if word == "some":
        return ["unsettled", "weightless"] if isinstance(value, Weightless) else ["weighted"]
    if word == "setting":
        return ["settled", "weighted"]
    if word == "cases":
        return ["unsettled"] if claim[2] == () else []
    return ["unsettled"] if isinstance(value, OddRooms) else []
