"""The interface: names, parameters, defaults, and the file in which each is defined."""

import importlib
import inspect
import unittest

WANTED = {
    "errors": """RoomError InvalidBook(at) InvalidText(at) InvalidSaying(at) InvalidTerm(at) InvalidRing(at)
        InvalidWeight(at) InvalidLook(at) InvalidNumber(word) NoWeight Refused(word)""",
    "books": "Book(rooms) crossings(book) renamed(book,names)",
    "fractions": """fraction_of(top,bottom) is_fraction(value) plus(one,other) minus(one,other) times(one,other)
        ratio(one,other) less(one,other) sum_of(fractions)""",
    "marks": "Marks(lot) OddRooms(rooms) marks(book) check_marks(book,value)",
    "sayings": """whole(book) saying_of(book,room,lot) check_saying(book,value) forms(book,saying)
        all_sayings(book,*,size=None) count_sayings(book) place_of(book,saying) saying_at(book,place)
        opposite(book,saying) implies(book,one,other) together(book,one,other)""",
    "full": "is_full(book) least_rooms(size,ring) least_full(size,ring)",
    "looks": """state_after(book,outcome,saying) sure_after(book,outcome) count_sure(book,outcome)
        can_follow(book,one,other) next_outcomes(book,outcome,room) shown_next(book,outcome,room)
        unimplied_look(book) bridges(book,one,other)""",
    "orders": """implied(book,saying) implying(book,saying) between(book,one,other) count_implied(book)
        above(book,saying) below(book,saying) chains(book,one,other,*,most=500) count_chains(book,one,other)
        chain_lengths(book,one,other) longest_chain(book,one,other) shortest_chain(book,one,other)
        chain_room(book,row) chain_through(book,row)""",
    "rings": """neighbours(book,room) check_ring(book,value) written_ring(book,value) rings_of(book,size)
        short_rings(book) shortest_ring(book)""",
    "settings": """is_setting(book,value) choices(book,setting) holds(book,setting,saying) count_settings(book,told=())
        all_settings(book,told=()) setting_at(book,place,told=()) place_of_setting(book,setting)""",
    "spare": "apart_lots(book,size) room_with(book,names)",
    "verdicts": """House(book) Torn(ring,one,other,first,second) court(book) check_verdict(book,value) joinless(book)
        meetless(book)""",
    "tables": "join(house,one,other) meet(house,one,other) join_all(house,sayings) meet_all(house,sayings)",
    "zigzags": """is_zigzag(book,value) zigzag_length(book,one,other) count_zigzags(book,one,other)
        shortest_zigzag(book,one,other) zigzag_lengths(book,saying) rooms_between(book,room,other)
        outcome_row(book,room,other) farthest_from(book,saying) farthest_pair(book)""",
    "asks": """ask(house,known,saying) enough_known(house,saying,wanted) gentle_room(house,outcome,saying)
        order_gap(house,one,other)""",
    "cases": "Cases(room,parts) some_setting(book,told=()) check_cases(book,told,value) fixed(book,told=())",
    "changed": "changed_joins(book,room) count_changed(book,lot)",
    "growth": """distance(book,one,other) ways_between(book,one,other,size) first_way(book,one,other)
        closed_rings(book,lot,size) may_share(book,lot) nearest_two(book,lot) free_lots(book,size)
        greatest_free_lots(book) grown_book(book,lot,*,size=3)""",
    "lots": "together_lots(book) centre(book) outcomes_under(book,saying) hidden_pairs(book)",
    "machines": """check_run(book,run,*,after=None) count_runs(book,plan,*,after=None) run_at(book,plan,number,*,after=None)
        place_of_run(book,run,*,after=None) last_outcomes(book,plan,*,after=None)
        lost_run(book,outcome,plan,saying)""",
    "pairs": """core(house,one,other) shade(house,one,other) common_rooms(book,sayings) are_together(book,sayings)
        count_together(book)""",
    "terms": """check_term(value) read_term(text) show_term(term) value_of(house,term,given) worked(house,term,given)
        pushed(term)""",
    "texts": "read_book(text) show_book(book)",
    "trees": "pieces(book) extra_shares(book) room_order(book) check_room_order(book,value)",
    "weights": """Weightless(numbers) check_weight(book,value) factors_of(book,pairs) weigh(book,weight,factors)
        share(book,weight,saying) blended(book,pairs) even_weight(book) some_weight(book) check_some(book,value)""",
    "apart": """Bound(rings) Split(outcome,rooms) sub_book(book,rooms) blocks(book) bound_or_split(book)
        check_bound(book,value) block_plan(book) check_block_plan(book,value)""",
    "bent": """straight_sides(house,low,high,other) straight_door(house,low,high,other) count_straight(house)
        Straight(pivot) Bent(low,high,other) straight_court(house) check_straightness(house,value)""",
    "bounds": """Least(value,weight,numbers,bottom) Greatest(value,weight,numbers,bottom) Full(weight,numbers)
        least_total(book,factors) greatest_total(book,factors) check_least(book,factors,value)
        check_greatest(book,factors,value) weight_at(book,factors,value) least_share(book,saying)
        greatest_share(book,saying) full_weight(book) check_full(book,value) never(book) shifts(book) freedom(book)""",
    "colours": "Colours(settings) Stuck(outcome,parts) colours(book) check_colours(book,value)",
    "cycles": """ring_sizes(book) ring_book(sizes) ring_settings(sizes) half_weight(book) ring_blend(book,weight)
        ring_blend_holds(book,weight,value)""",
    "edits": """extends(one,other) book_with(book,room,*,at=None) without_room(book,room) rewritten(old,new,saying)
        gone(old,new) lost(old,new) ring_over(old,new,ring)""",
    "joined": """joined(one,other,*,at=()) lifted(one,other,saying,*,at=()) rings_across(one,other,size,*,at=())
        joined_girth(one,other,*,at=()) least_across(one,other,first,second,*,at=())
        greatest_across(one,other,first,second,*,at=())""",
    "kept": """first_closing(book) kept_rooms(book,order) greatest_houses(book) why_left(book,kept)
        check_left(book,kept,table)""",
    "kinds": """corners_of(house,one,other) grown_from(house,sayings) kind_of(term) term_of_kind(kind)
        kind_value(house,kind,one,other) kind_implies(kind,later) Same(kind) Unlike(book,one,other,first,second)
        compare_terms(first,second) check_unlike(first,second,value)""",
    "mends": """all_shares(book) parted_book(book,lot) cheapest_parting(book,prices) parting_rings(book,lot)
        check_cheapest(book,prices,lot,table) fewest_parting(book,*,most=4) more_needed(book,many)
        check_needed(book,many,value)""",
    "pictures": """Pictured(settings) Unpictured(one,other,why) setting_between(book,one,other)
        check_between(book,one,other,value) pictured(book) check_pictured(book,value) is_picture(book,settings)
        picture(book,settings,saying) fewest_points(book,*,most=4)""",
    "reaches": """Reached(run,levels) Unreached(lot) reach(book,outcome,saying) check_reach(book,outcome,saying,value)
        looks_needed(book,outcome,saying)""",
    "told": "Order(ups,opposites) order_of(book,numbers) told_back(order)",
    "uppers": """least_above(book,one,other) greatest_below(book,one,other) least_above_all(book,sayings) most_above(book)
        is_join(book,one,other,value) is_meet(book,one,other,value)""",
    "alike": "carries(book,other,names) alike(book,other) one_form(book) order_alike(one,other)",
    "corners": """halves(book,weight) is_corner(book,weight) corners(book,*,most=200) corner_blend(book,weight)
        check_corner_blend(book,weight,value)""",
    "live": "Live(book)",
    "mixed": """joined_weight(one,other,first,second,*,at=()) weight_parts(one,other,weight,*,at=())
        joint_range(one,other,pair) weight_across(one,other,pair,value) count_joined(one,other,*,at=())
        extended(book,room,weight) extensions(book,room,setting)""",
    "mixtures": "Mixture(settings,shares) Bet(numbers) mixture(book,weight) check_mixture(book,weight,value)",
    "parted": """Ahead(weight) NeverAhead(numbers,bottom) compare_shares(book,one,other)
        check_comparison(book,one,other,value) crucial_lots(book)""",
    "spread": """row_sides(house,one,other,third,row) row_gap(house,one,other,third,row)
        broken_rows(house,one,other,third) spreads(house,one,other,third) hubs(house,one,other,third)
        some_broken(house) always_spreading(house) triple_reason(house,one,other,third)
        is_triple_reason(house,one,other,third,value) count_triples(house) and_or_from(house,sayings)""",
    "enough": """Enough(weights) Lacking(one,other,numbers,bottom) enough_weights(book) check_enough(book,value)
        unparted_lots(book)""",
    "turnings": "room_turnings(book,*,most=200) count_turnings(book)",
    "light": "is_light(book,lot) hidden_rooms(book) odd_weight(book,other)",
    "grown": """Growing(weights) Stunted(outcome,numbers,bottom) room_growth(book,room)
        check_room_growth(book,room,value)""",
    "completed": """Completed(weight) Blocked(numbers) complete_shares(book,told) check_completed(book,told,value)
        share_range(book,told,outcome) grow(book,room,shares)""",
    "checker": "words() check(claim) carried(claim,book) gather(book) concluded(book,claims)",
}
METHODS = {
    "Book": "outcomes() shared() rooms_of(outcome) room_of_two(one,other)",
    "Live": """present() looks() changes() short_rings() put_room(room,*,at=None) take_room(room) undo()
        look(room,outcome) sure() next_outcomes() verdict() mending()""",
}


def shown(function):
    """A function or a class with its parameters, without blanks."""
    return function.__name__ + str(inspect.signature(function)).replace(" ", "").replace("(self,", "(").replace(
        "(self)", "()")


class InterfaceTests(unittest.TestCase):
    def test_functions_and_classes(self):
        for name in WANTED:
            module = importlib.import_module("roomlooks." + name)
            for wanted in WANTED[name].split():
                found = getattr(module, wanted.split("(")[0])
                self.assertEqual(found.__module__, module.__name__)
                if "(" in wanted:
                    self.assertEqual(shown(found), wanted)

    def test_methods(self):
        for name in METHODS:
            home = [home for home in WANTED if " " + name + "(" in " " + WANTED[home]][0]
            made = getattr(importlib.import_module("roomlooks." + home), name)
            for wanted in METHODS[name].split():
                self.assertEqual(shown(vars(made)[wanted.split("(")[0]]), wanted)

    def test_no_class_is_derived_from_another_one(self):
        for name in WANTED:
            module = importlib.import_module("roomlooks." + name)
            for made in vars(module).values():
                if inspect.isclass(made) and not issubclass(made, ValueError):
                    self.assertEqual(made.__bases__, (object,))


if __name__ == "__main__":
    unittest.main()
