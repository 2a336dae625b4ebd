"""Claims: point [100]."""

import random
import unittest

from common import Case, Thing, odd_values, plain
from oracle import Model, rings, settings, short_rings_of
from samples import (BOW, EIGHT, FANO, FIVE, GRID, HEXAGON, K5, LARGE, LINES, MIDDLE, ONE, PENTAGON, PIECES, SMALL, SQUARE, TORN, TRIANGLE,
                     TWO, book, made_books, plane, ring_of, row_of, star)
from test_bounds import NEVER, SEVEN
from test_enough import K4
from roomlooks.alike import alike
from roomlooks.apart import Split, block_plan, bound_or_split
from roomlooks.bent import Straight, straight_court
from roomlooks.books import Book
from roomlooks.bounds import full_weight, greatest_total, least_total
from roomlooks.cases import Cases, check_cases, some_setting
from roomlooks.checker import carried, check, concluded, gather, words
from roomlooks.colours import colours
from roomlooks.completed import complete_shares
from roomlooks.corners import corner_blend
from roomlooks.edits import extends
from roomlooks.enough import enough_weights
from roomlooks.errors import InvalidLook, InvalidNumber, InvalidRing, InvalidSaying, InvalidWeight, Refused
from roomlooks.full import least_full
from roomlooks.grown import room_growth
from roomlooks.kept import greatest_houses, why_left
from roomlooks.kinds import compare_terms
from roomlooks.marks import Marks, OddRooms, check_marks, marks
from roomlooks.mends import cheapest_parting, all_shares, more_needed, parting_rings
from roomlooks.mixtures import mixture
from roomlooks.parted import compare_shares
from roomlooks.pictures import pictured, setting_between
from roomlooks.reaches import Unreached, reach
from roomlooks.rings import shortest_ring
from roomlooks.settings import all_settings
from roomlooks.spread import triple_reason
from roomlooks.terms import read_term
from roomlooks.trees import room_order
from roomlooks.verdicts import House, Torn, check_verdict, court
from roomlooks.weights import Weightless, check_some, even_weight, some_weight
from roomlooks.zigzags import shortest_zigzag

WORDS = """ahead alike between blend bound cases cheapest colours completed enough full greatest growth join least left marks meet
    mixture needed order pictured plan reach ring run setting some straight triple unlike verdict weight zigzag""".split()
HALF, ZERO, FULL = (1, 2), (0, 1), (1, 1)
# No setting and no marks: five rooms of four outcomes, each two of which share one; seven rooms without a weight.
BOOKS = SMALL + MIDDLE + [K4, SEVEN, NEVER, LINES] + made_books(92, 25, 7)


def prices_of(each):
    return {share: at % 3 for at, share in enumerate(all_shares(each))}


def holding_claims():
    """For each word some claims that hold."""
    cheap = cheapest_parting(TRIANGLE, prices_of(TRIANGLE))
    weight, told = even_weight(BOW), {"a": HALF}
    kept = greatest_houses(GRID)[0]
    terms = (read_term("A"), read_term("A or B"))
    low = least_total(BOW, (1, 2, 3, 4, 5))
    return {
        "ahead": [("ahead", BOW, ("a",), ("b",), compare_shares(BOW, ("a",), ("b",)))],
        "alike": [("alike", BOW, book("c d e\na b c"), {name: name for name in BOW.outcomes()})],
        "between": [("between", BOW, ("a",), ("c",), ("a", "d")), ("between", BOW, ("a",), ("a", "b"), setting_between(BOW, ("a",), ("a", "b")))],
        "blend": [("blend", BOW, weight, corner_blend(BOW, weight))],
        "bound": [("bound", BOW, bound_or_split(BOW)), ("bound", TRIANGLE, bound_or_split(TRIANGLE))],
        "cases": [("cases", K5, (), some_setting(K5)), ("cases", BOW, ("a", "c"), some_setting(BOW, ("a", "c")))],
        "cheapest": [("cheapest", TRIANGLE, prices_of(TRIANGLE), cheap, parting_rings(TRIANGLE, cheap))],
        "colours": [("colours", BOW, colours(BOW))],
        "completed": [("completed", BOW, told, complete_shares(BOW, told))],
        "enough": [("enough", BOW, enough_weights(BOW)), ("enough", K4, enough_weights(K4))],
        "full": [("full", BOW, full_weight(BOW))],
        "greatest": [("greatest", BOW, (1, 2, 3, 4, 5), greatest_total(BOW, (1, 2, 3, 4, 5)))],
        "growth": [("growth", BOW, 1, room_growth(BOW, 1)), ("growth", FANO, 0, room_growth(FANO, 0))],
        "join": [("join", BOW, ("a",), ("b",), ("a", "b"))],
        "least": [("least", BOW, (1, 2, 3, 4, 5), low)],
        "left": [("left", GRID, kept, why_left(GRID, kept))],
        "marks": [("marks", BOW, marks(BOW)), ("marks", K5, marks(K5))],
        "meet": [("meet", BOW, ("a", "b"), ("b", "c"), ("b",))],
        "mixture": [("mixture", BOW, weight, mixture(BOW, weight))],
        "needed": [("needed", TRIANGLE, 0, more_needed(TRIANGLE, 0)), ("needed", K4, 2, more_needed(K4, 2))],
        "order": [("order", BOW, room_order(BOW))],
        "pictured": [("pictured", BOW, pictured(BOW)), ("pictured", TRIANGLE, pictured(TRIANGLE))],
        "plan": [("plan", PIECES, block_plan(PIECES))],
        "reach": [("reach", BOW, "a", ("d",), reach(BOW, "a", ("d",))), ("reach", ONE, "a", ("b",), reach(ONE, "a", ("b",)))],
        "ring": [("ring", TRIANGLE, shortest_ring(TRIANGLE)), ("ring", HEXAGON, shortest_ring(HEXAGON))],
        "run": [("run", BOW, ()), ("run", BOW, ((0, "a"), (1, "e")))],
        "setting": [("setting", BOW, ("a", "d"))],
        "some": [("some", BOW, weight), ("some", SEVEN, some_weight(SEVEN))],
        "straight": [("straight", House(BOW), straight_court(House(BOW))), ("straight", House(TWO), straight_court(House(TWO)))],
        "triple": [("triple", House(TWO), ("a",), ("b",), ("d",), triple_reason(House(TWO), ("a",), ("b",), ("d",)))],
        "unlike": [("unlike", *terms, compare_terms(*terms))],
        "verdict": [("verdict", BOW, court(BOW)), ("verdict", TRIANGLE, court(TRIANGLE))],
        "weight": [("weight", BOW, weight)],
        "zigzag": [("zigzag", BOW, shortest_zigzag(BOW, ("a",), ("d",)))],
    }


CLAIMS = holding_claims()
# Claims with other objects of the right classes, which do not hold.
FALSE_CLAIMS = [
    ("ahead", BOW, ("b",), ("a",), compare_shares(BOW, ("a",), ("b",))), ("alike", BOW, TWO, alike(BOW, BOW)), ("between", BOW, ("a",), ("c",), ("b", "c")),
    ("blend", BOW, (FULL, ZERO, ZERO, FULL, ZERO), corner_blend(BOW, even_weight(BOW))), ("bound", TRIANGLE, Split(None, (0,))),
    ("cases", BOW, (), Cases(0, (None, None, None))), ("colours", TRIANGLE, colours(BOW)), ("enough", K4, enough_weights(BOW)),
    ("greatest", BOW, (1, 2, 3, 4, 5), least_total(BOW, (1, 2, 3, 4, 5))), ("growth", BOW, 0, room_growth(BOW, 1)), ("join", BOW, ("a",), ("b",), ("a",)),
    ("meet", BOW, ("a", "b"), ("b", "c"), ("b", "c")), ("marks", BOW, Marks(("a",))), ("needed", K4, 1, more_needed(K4, 2)), ("order", BOW, (0,)),
    ("order", TRIANGLE, (0, 1, 2)), ("plan", BOW, ()), ("reach", BOW, "a", ("b",), Unreached(("a",))), ("ring", TRIANGLE, ()), ("run", BOW, ((0, "a"), (0, "b"))),
    ("setting", BOW, ("a",)), ("some", BOW, Weightless((0, -1))), ("straight", House(TWO), Straight("a")), ("triple", House(TWO), ("a",), ("b",), ("d",), ("hub", 0)),
    ("unlike", read_term("A"), read_term("A"), CLAIMS["unlike"][0][3]), ("verdict", TRIANGLE, House(TRIANGLE)), ("weight", BOW, (ZERO,) * 5), ("zigzag", BOW, ()),
]


class CheckTests(Case):
    def test_words(self):
        self.gives(tuple(WORDS), words)
        self.assertEqual(sorted(CLAIMS), WORDS)

    def test_claims_that_hold(self):
        for word in WORDS:
            for claim in CLAIMS[word]:
                self.gives(True, check, claim)

    def test_claims_that_do_not_hold(self):
        for claim in FALSE_CLAIMS:
            self.gives(False, check, claim)
        for word in WORDS:
            for claim in CLAIMS[word]:
                for value in [None, 0, "zz", Thing(), [claim[-1]], ("zz", None), 1.5]:
                    self.gives(False, check, claim[:-1] + (value,))

    def test_last_argument_of_any_value(self):
        for word in WORDS:
            claim = CLAIMS[word][-1]
            for value in odd_values():
                # Two of the values are runs, one is a zigzag, and None may show that no setting parts two outcomes.
                if (word, value) not in [("run", ()), ("run", ((0, "a"),)), ("zigzag", (("a",),)), ("between", (None,))]:
                    self.gives(False, check, claim[:-1] + (value,))

    def test_other_forms(self):
        for word in WORDS:
            for claim in CLAIMS[word]:
                for other in [claim[:-1], claim + (None,), list(claim), (word,), (), claim[1:], (word.upper(),) + claim[1:], (word + " ",) + claim[1:],
                              (None,) + claim[1:], ((word,),) + claim[1:], ([word],) + claim[1:], ("check_" + word,) + claim[1:], {word: claim[1:]}]:
                    self.gives(False, check, other)
                for word2 in WORDS:
                    if len(CLAIMS[word2][0]) != len(claim):
                        self.gives(False, check, (word2,) + claim[1:])
        for value in odd_values():
            self.gives(False, check, value)
            self.gives(False, check, (value, BOW, ()))
        # `run` stands for calls without `after`.
        self.gives(False, check, ("run", BOW, (), "a"))

    def test_errors_that_pass(self):
        for error, claim in [
            (InvalidLook(-1), ("cases", BOW, None, None)), (InvalidLook(1), ("cases", BOW, ("a", "z"), None)), (InvalidNumber("room"), ("growth", BOW, 2, None)),
            (InvalidSaying(-1), ("ahead", BOW, None, ("a",), None)), (InvalidSaying(0), ("between", BOW, ("a",), ("z",), None)),
            (InvalidWeight(-1), ("blend", BOW, None, ())), (InvalidWeight(0), ("mixture", BOW, (), None)), (InvalidNumber("factors"), ("least", BOW, (1,), None)),
            (InvalidNumber("factors"), ("greatest", BOW, None, None)), (Refused("told"), ("completed", BOW, None, None)), (Refused("outcome"), ("reach", BOW, "z", ("a",), None)),
            (InvalidSaying(-1), ("reach", BOW, "a", None, None)), (Refused("sizes"), ("colours", book("a b c\nd e f g"), None)),
        ]:
            self.fails(error, check, claim)

    def test_errors_that_are_no(self):
        self.gives(False, check, ("ring", TRIANGLE, None))
        self.gives(False, check, ("run", BOW, ((0, "z"),)))
        self.gives(False, check, ("weight", BOW, None))
        self.gives(False, check, ("reach", BOW, "a", ("b",), None))
        for error in (InvalidRing, InvalidLook, InvalidWeight):
            self.assertTrue(issubclass(error, ValueError))

    def test_any_two_last_arguments(self):
        for value in odd_values():
            self.gives(False, check, ("cheapest", TRIANGLE, prices_of(TRIANGLE), value, value))
            self.gives(False, check, ("left", GRID, value, value))


def longer_and_shorter():
    """Pairs of a book and one that extends it, with the rooms at any places."""
    chance, found = random.Random(1), []
    for each in BOOKS:
        rooms = list(each.rooms)
        for _ in range(3):
            many = chance.randint(1, len(rooms))
            fewer = chance.sample(rooms, many)
            chance.shuffle(rooms)
            found.append((Book(tuple(fewer)), Book(tuple(rooms))))
        turned = Book(each.rooms[::-1])
        found.append((each, turned))
    # A book with odd rooms and others.
    part = Book((("x", "y", "z"),) + K5.rooms + (("u", "v", "w"),))
    found.append((part, Book((("r", "s", "t"),) + part.rooms[::-1])))
    for each, room in [(K5, ("a", "x", "y")), (SEVEN, ("x", "y", "z")), (TRIANGLE, ("b", "d", "x")), (BOW, ("a", "e", "f"))]:
        found.append((each, Book((room,) + each.rooms[::-1])))
    return found


PAIRS = longer_and_shorter()


class CarriedTests(Case):
    def holds(self, claim, word, each):
        self.assertEqual((type(claim), claim[0], claim[1]), (tuple, word, each))
        self.assertIs(check(claim), True)

    def test_to_books_with_more_rooms(self):
        seen = set()
        for old, new in PAIRS:
            self.assertTrue(extends(new, old))
            place = {number: new.rooms.index(room) for number, room in enumerate(old.rooms)}
            for claim in self.claims_of(old):
                found, word, value = carried(claim, new), claim[0], claim[-1]
                if word == "ring":
                    self.assertEqual(sorted(found[2]), sorted(self.turned(new, [(place[room], name) for room, name in value], found[2])))
                elif isinstance(value, Torn):
                    self.assertEqual({place[room] for room, _ in value.ring}, {room for room, _ in found[2].ring})
                elif isinstance(value, Weightless):
                    wanted = {place[room]: number for room, number in enumerate(value.numbers)}
                    self.assertEqual(found[2].numbers, tuple([wanted.get(room, 0) for room in range(len(new.rooms))]))
                elif word == "cases":
                    self.assertEqual(found[2], claim[2])
                    self.assertTrue(same_cases(value, found[3], place))
                elif isinstance(value, OddRooms):
                    self.assertEqual(found[2].rooms, tuple(sorted([place[room] for room in value.rooms])))
                elif set(new.rooms) != set(old.rooms):
                    self.assertIsNone(found)
                    continue
                seen.add((word, type(value).__name__))
                self.holds(found, word, new)
        self.assertEqual(len(seen & {("ring", "tuple"), ("verdict", "Torn"), ("some", "Weightless"), ("cases", "Cases"), ("marks", "OddRooms")}), 5)

    def turned(self, each, pairs, wanted):
        """The pairs of a ring, each with the outcome behind its room or the one before it, as they are in another one."""
        back = [(pairs[at][0], pairs[at - 1][1]) for at in range(len(pairs))]
        return pairs if set(pairs) == set(wanted) else back

    def claims_of(self, each):
        found = list(gather(each)) + [("marks", each, marks(each))]
        found += [("cases", each, told, value) for told in [(), each.outcomes()[:2], each.outcomes()[:1] * 2, each.outcomes()[1:4]]
                  for value in [some_setting(each, told)] if isinstance(value, Cases)]
        found += [("ring", each, ring) for size in range(3, 7) for ring in rings(each.rooms, size)[:2]]
        return found

    def test_to_books_with_fewer_rooms(self):
        seen = set()
        for new, old in PAIRS:
            names = new.outcomes()
            for claim in self.claims_of(old):
                found, word, value = carried(claim, new), claim[0], claim[-1]
                if isinstance(value, House):
                    self.assertEqual(found[2].book, new)
                elif word == "order":
                    wanted = [old.rooms[room] for room in value if old.rooms[room] in new.rooms]
                    self.assertEqual([new.rooms[room] for room in found[2]], wanted)
                elif word == "setting":
                    self.assertEqual(found[2], tuple([name for name in value if name in names]))
                elif word == "some" and isinstance(value, tuple):
                    table = dict(zip(old.outcomes(), value))
                    self.assertEqual(found[2], tuple([table[name] for name in names]))
                elif isinstance(value, Marks):
                    self.assertEqual(found[2].lot, tuple([name for name in value.lot if name in names]))
                elif set(new.rooms) != set(old.rooms):
                    self.assertIsNone(found)
                    continue
                seen.add((word, type(value).__name__))
                self.holds(found, word, new)
        self.assertEqual(len(seen & {("verdict", "House"), ("order", "tuple"), ("setting", "tuple"), ("some", "tuple"), ("marks", "Marks")}), 5)

    def test_to_other_books(self):
        for old in [BOW, TRIANGLE, K5, SEVEN]:
            for new in [TWO, FIVE, book("a b c\nd e f\na d g"), FANO, ring_of(7)]:
                if not extends(new, old) and not extends(old, new):
                    for claim in self.claims_of(old):
                        self.gives(None, carried, claim, new)

    def test_other_words(self):
        for word in WORDS:
            for claim in CLAIMS[word]:
                for new in (BOW, ONE, book("a b c\nc d e\nx y z")):
                    found = carried(claim, new)
                    if word not in ("cases", "marks", "order", "ring", "setting", "some", "verdict"):
                        self.assertIsNone(found)
                    elif found is not None:
                        self.holds(found, word, new)
                    self.gives(found, carried, claim, new)

    def test_in_every_way(self):
        longer = book("x y z\nc d e\na b c\na e f")
        self.gives(("ring", longer, ((1, "c"), (2, "a"), (3, "e"))), carried, ("ring", TRIANGLE, ((0, "c"), (1, "e"), (2, "a"))), longer)
        torn = carried(("verdict", TRIANGLE, court(TRIANGLE)), longer)
        self.gives(torn, carried, ("verdict", TRIANGLE, court(TRIANGLE)), longer)
        self.assertEqual((torn[2].one, torn[2].other, torn[2].first, torn[2].second), (("c",), ("e",), ("c", "e"), ("b", "c")))
        self.gives(("order", ONE, (0,)), carried, ("order", BOW, (1, 0)), ONE)
        self.gives(("order", book("c d e\na b c"), (1, 0)), carried, ("order", BOW, (0, 1)), book("c d e\na b c"))
        self.gives(("setting", book("c d e"), ("d",)), carried, ("setting", BOW, ("a", "d")), book("c d e"))
        self.gives(("some", ONE, (HALF, ZERO, HALF)), carried, ("some", BOW, (HALF, ZERO, HALF, ZERO, HALF)), ONE)
        self.gives(("marks", ONE, Marks(("c",))), carried, ("marks", BOW, Marks(("c",))), ONE)
        self.gives(("verdict", ONE, House(ONE)), carried, ("verdict", BOW, House(BOW)), ONE)
        self.gives(None, carried, ("verdict", BOW, House(BOW)), TRIANGLE)
        self.gives(None, carried, ("verdict", TRIANGLE, court(TRIANGLE)), BOW)
        self.gives(None, carried, ("some", BOW, even_weight(BOW)), TRIANGLE)
        self.gives(("some", Book((("x", "y", "z"),) + SEVEN.rooms), Weightless((0, 1, 1, 1, -1, -1, -1, -1))), carried,
                   ("some", SEVEN, Weightless((1, 1, 1, -1, -1, -1, -1))), Book((("x", "y", "z"),) + SEVEN.rooms))
        self.gives(("marks", Book(K5.rooms[::-1] + (("x", "y", "z"),)), OddRooms((0, 1, 2, 3, 4))), carried, ("marks", K5, OddRooms((0, 1, 2, 3, 4))),
                   Book(K5.rooms[::-1] + (("x", "y", "z"),)))
        self.gives(("cases", Book((("x", "y", "z"),) + BOW.rooms), ("a", "b"), Cases(1, (None, None, None))), carried,
                   ("cases", BOW, ("a", "b"), Cases(0, (None, None, None))), Book((("x", "y", "z"),) + BOW.rooms))

    def test_one_cases_at_many_places(self):
        value = Cases(0, (None, None, None))
        for room in [0, 1, 0, 1, 0, 1, 0, 1, 1, 1, 0, 0, 1, 0, 1, 1, 0]:
            value = Cases(room, (value, value, value))
        claim, longer = ("cases", BOW, ("a", "b"), value), book("x y z\nc d e\na b c")
        self.assertTrue(check(claim))
        found = carried(claim, longer)
        self.assertTrue(check_cases(longer, ("a", "b"), found[3]))
        self.assertTrue(check(found))

    def test_book_that_is_the_same(self):
        for each in [ONE, BOW, TRIANGLE, K5, SEVEN, PIECES]:
            for claim in gather(each):
                self.assertEqual(plain(carried(claim, each)), plain(claim))


def same_cases(value, other, place):
    if value is None or other is None:
        return value is None and other is None
    return other.room == place[value.room] and all([same_cases(a, b, place) for a, b in zip(value.parts, other.parts)])


def truths(each):
    """The words that are true of a book, but those that [100] does not list."""
    found = ["torn" if short_rings_of(each.rooms) else "house"]
    found.append("ringless" if room_order(each) is not None else "ringed")
    found.append("weighted" if isinstance(some_weight(each), tuple) else "weightless")
    found.append("settled" if settings(each.rooms) else "unsettled")
    return sorted(found)


COUPLES = [("house", "torn"), ("ringless", "ringed"), ("weighted", "weightless"), ("settled", "unsettled")]


class GatherTests(Case):
    def test_gather(self):
        for each in BOOKS + LARGE:
            found = gather(each)
            self.assertIsInstance(found, tuple)
            self.assertEqual(len(found), 4)
            for claim in found:
                self.assertEqual(claim[1], each)
                self.assertIs(check(claim), True)
            verdict, ring, some, setting = found
            self.assertEqual(plain(verdict), plain(("verdict", each, court(each))))
            order = room_order(each)
            self.assertEqual(ring, ("ring", each, shortest_ring(each)) if order is None else ("order", each, order))
            self.assertEqual(some[0], "some")
            self.assertTrue(check_some(each, some[2]))
            self.assertTrue(check_verdict(each, verdict[2]))
            first = some_setting(each)
            self.assertEqual(plain(setting), plain(("cases", each, (), first) if isinstance(first, Cases) else ("setting", each, first)))

    def test_one_of_each_couple(self):
        seen = set()
        for each in BOOKS + LARGE + [least_full(3, 5), plane(2, 5)]:
            found = concluded(each, gather(each))
            for one, other in COUPLES:
                self.assertEqual((one in found) + (other in found), 1)
            wanted = truths(each) if len(each.rooms) < 9 else None
            if wanted is not None:
                self.assertEqual(found, tuple(wanted))
            seen |= set(found)
        self.assertEqual(seen, {word for couple in COUPLES for word in couple})

    def test_in_every_way(self):
        for each in [ONE, BOW, TRIANGLE, K5, SEVEN, SQUARE, PENTAGON, TORN, EIGHT, star(10), row_of(10)]:
            self.gives(gather(each), gather, each)
            self.gives(concluded(each, gather(each)), concluded, each, gather(each))
        self.gives(("house", "ringless", "settled", "weighted"), lambda book: concluded(book, gather(book)), BOW)
        self.gives(("ringed", "settled", "torn", "weighted"), lambda book: concluded(book, gather(book)), TRIANGLE)
        self.gives(("house", "ringed", "settled", "weighted"), lambda book: concluded(book, gather(book)), PENTAGON)
        self.gives(("ringed", "torn", "unsettled", "weightless"), lambda book: concluded(book, gather(book)), SEVEN)


class ConcludedTests(Case):
    def test_each_claim(self):
        for wanted, claim in [
            (("house",), ("verdict", BOW, House(BOW))), (("ringed", "torn"), ("verdict", TRIANGLE, court(TRIANGLE))), (("house", "ringless"), ("order", BOW, (1, 0))),
            (("ringed", "torn"), ("ring", TRIANGLE, shortest_ring(TRIANGLE))), (("ringed", "torn"), ("ring", SQUARE, shortest_ring(SQUARE))),
            (("ringed",), ("ring", PENTAGON, shortest_ring(PENTAGON))), (("weighted",), ("some", BOW, even_weight(BOW))),
            (("unsettled", "weightless"), ("some", SEVEN, some_weight(SEVEN))), (("settled", "weighted"), ("setting", BOW, ("c",))),
            (("unsettled",), ("cases", K5, (), some_setting(K5))), ((), ("cases", BOW, ("a", "b"), some_setting(BOW, ("a", "b")))),
            ((), ("cases", K5, ("a",), some_setting(K5, ("a",)))), (("unsettled",), ("marks", K5, marks(K5))), ((), ("marks", BOW, marks(BOW))),
        ]:
            self.gives(wanted, concluded, claim[1], (claim,))
            self.gives(wanted, concluded, claim[1], (claim, claim, None))

    def test_only_what_is_carried(self):
        torn, house = ("verdict", TRIANGLE, court(TRIANGLE)), ("verdict", BOW, House(BOW))
        longer = book("a b c\nc d e\na e f\nx y z")
        self.gives(("ringed", "torn"), concluded, longer, (torn, house))
        self.gives((), concluded, BOW, (torn,))
        self.gives(("house",), concluded, BOW, (torn, house))
        self.gives(("house", "weighted"), concluded, ONE, (torn, house, ("some", BOW, even_weight(BOW))))
        self.gives((), concluded, TWO, (torn, house, ("some", BOW, even_weight(BOW))))
        for word in WORDS:
            for claim in CLAIMS[word]:
                found = concluded(BOW, (claim,))
                self.assertTrue(set(found) <= set(truths(BOW)))

    def test_all_words_are_true(self):
        for old, new in PAIRS:
            if len(new.rooms) < 9:
                claims = gather(old) + (("marks", old, marks(old)),)
                true = truths(new) + (["ringed"] if "torn" in truths(new) else [])
                self.assertTrue(set(concluded(new, claims)) <= set(true))
                back = gather(new) + (("marks", new, marks(new)),)
                true = truths(old) + (["ringed"] if "torn" in truths(old) else [])
                self.assertTrue(set(concluded(old, back)) <= set(true))

    def test_claims_that_do_not_hold(self):
        self.gives((), concluded, BOW, tuple(FALSE_CLAIMS))
        self.gives((), concluded, TRIANGLE, tuple(FALSE_CLAIMS))
        self.gives((), concluded, BOW, ())
        self.gives((), concluded, BOW, tuple(odd_values()))
        self.gives(("house", "ringless"), concluded, BOW, tuple(odd_values()) + (("order", BOW, (0, 1)), ("order", BOW, None), ("order", BOW)))
        for value in odd_values():
            for word in ("verdict", "order", "ring", "some", "setting", "marks"):
                self.gives((), concluded, BOW, ((word, BOW, value), (word, value)) if value != () else ())

    def test_errors_pass(self):
        self.fails(InvalidLook(-1), concluded, BOW, (("order", BOW, (0, 1)), ("cases", BOW, None, None)))
        self.fails(InvalidNumber("room"), concluded, BOW, (("growth", BOW, 7, None),))

    def test_models(self):
        # What is true by the words of all sayings, too: a book is a house exactly if any two sayings have a join.
        for each in [ONE, BOW, TRIANGLE, SQUARE, K4]:
            model = Model(each.rooms)
            joins = all([model.join(a, b) is not None for a in model.sayings for b in model.sayings])
            self.assertEqual("house" in concluded(each, gather(each)), joins)
            self.assertEqual("settled" in concluded(each, gather(each)), all_settings(each) != ())
            self.assertTrue(check_marks(each, marks(each)))


if __name__ == "__main__":
    unittest.main()
