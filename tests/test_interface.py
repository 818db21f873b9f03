"""The interface: names, parameters, and the file in which each function is defined."""

import importlib
import inspect

from fittingdoors.benches import Bench
from tests.brute import TestCase

# The functions that have landed, each with its parameters, as the document lists them.
LISTED = {
    "partings": "need_parting(parting) is_parting(value) parting_of(blocks) size_of(parting) blocks_of(parting) "
                "all_partings(number)",
    "selecting": "parting_of_some(parting,doors) beside(parting,other)",
    "finer": "is_finer(parting,other) finest_above(parting,other) coarsest_below(parting,other)",
    "between": "between_number(parting,other) between_at(parting,other,number) number_between(parting,other,third)",
    "meeting": "meet_in_tree(parting,other) meet_in_wood(parting,other) is_ring(parting,other,doors) ring(parting,other)",
    "routes": "way(parting,other,door,other_door) sides(parting,other,door) moves(parting,other)",
    "meeters": "meeting_number(parting) all_meeting(parting) meeting_by_sizes(parting,sizes) meeting_pairs(number)",
    "halves": "completions_number(parting,half) completion_at(parting,half,number) "
              "number_of_completion(parting,half,other)",
    "pieces": "piece_fault(value) is_piece(value) need_piece(piece) plain_piece(piece) piece_size(piece)",
    "settings": "either_knots(piece) need_setting(piece,setting) left_by(piece,setting) why_barred(piece,setting) "
                "is_reason(piece,setting,reason)",
    "lotting": "is_sound(piece) bad_setting(piece) need_sound(piece) lot_of(piece) settings_leaving(piece,parting)",
    "melting": "melting(piece,parting) fits_tree(piece,parting) stands(piece) barred_setting(piece)",
    "joining": "joined(piece,other,ties) tied(piece,ties) fit(piece,other)",
    "makers": "tree_piece(parting) knot_piece(sort) doors_in_order(piece,order)",
    "lots": "need_lot(lot,number)",
    "turning": "turned(lot,number) closed(lot,number) is_closed(lot,number) closed_lots(number)",
    "order": "met(lot,other,number) spanned(lot,other,number)",
    "besides": "lots_beside(lot,number,other,other_number) side_parts(lot,number)",
    "alike": "turned_piece(piece) parted(piece,other) goes_for(piece,other)",
    "shifting": "shifted(parting,other) shift_classes(lot,number) shift_piece(parting,other)",
    "finishing": "left_partings(piece) is_open(piece,parting) finished(piece,parting) free_pairs(piece)",
    "origins": "why_none(lot,number) piece_of(lot,number) knots_needed(parting)",
    "glueing": "glued(parting,other,ties) lots_joined(lot,number,other,other_number,ties) lot_tied(lot,number,ties)",
    "holes": "fillers(lot,number,hole,goal) fills_hole(lot,number,hole,goal,other) "
             "no_filler_paper(lot,number,hole,goal) need_no_filler_paper(lot,number,hole,goal,paper)",
    "tying": "ties_come(lot,number,other,other_number,ties) ties_counted(lot,number,other,other_number) "
             "all_ties(lot,number,other,other_number,many) most_ties(lot,number,other,other_number)",
    "together": "doors_joined(lot,number)",
    "cutting": "cut(piece,lines) hanging(piece) is_sound_by_parts(piece,lines)",
    "prices": "prices(lot,other,number)",
    "chains": "chained(lot,doors,times) course(lot,doors) closed_course(lot,doors)",
    "letters": "need_alphabet(alphabet) need_term(alphabet,term) alphabet_of(rows) term_piece(rows,term)",
    "terms": "term_lot(alphabet,term) gains(alphabet) need_system(system) term_stands(system,term)",
    "states": "all_states(alphabet) state_of(alphabet,term)",
    "tables": "least_table(system) class_of(system,term)",
    "always": "least_standing(system) least_fallen(system) all_closers(alphabet,width) greatest_standing(system)",
    "compared": "parted_by(system,other) letters_alike(system)",
    "counted": "standing_counted(system,number) standing_term(system,number,place) standing_place(system,term)",
    "forms": "leaves(form) dual(form) plain(form) web(form) is_same(form,other) step(form,path,word) form_piece(form)",
    "formcounts": "form_count(number) all_forms(number)",
    "formlots": "form_lot_size(form) form_parting(form,place) form_place(form,parting) unmet(form,parting)",
    "toldback": "form_of_lot(lot,number) form_alike(lot,number)",
    "loosening": "is_looser(form,other) loosened(form,other)",
    "inbetween": "forms_between(lot,other,number)",
    "vanishing": "vanishing_pairs(piece) clashing_pairs(piece) vanished_pair(piece,knot) vanished(piece) vanishings(piece)",
    "wirings": "need_wiring(wiring) wiring_of(piece) wiring_piece(wiring) wirings_joined(wiring,other) "
               "wiring_power(wiring,number) ring_loops(wiring,number)",
    "woods": "wood_left_by(piece,setting) ringing_setting(piece) wood_lot(piece) wood_turned(lot,number) "
             "wood_closed(lot,number) wood_parted(piece,other)",
    "lettering": "is_name(value)",
    "texts": "parting_text(parting) lot_text(lot,number) piece_text(piece) form_text(form)",
    "parsing": "parse_parting(text) parse_lot(text) parse_piece(text) parse_form(text)",
    "logs": "log_text(bench) read_log(text)",
    "sheets": "sheet_entries(text) judged(text)",
}


class InterfaceTests(TestCase):
    def test_names_and_parameters(self):
        for name, listed in LISTED.items():
            module = importlib.import_module("fittingdoors." + name)
            for text in listed.split():
                word, parameters = text[:-1].split("(")
                function = getattr(module, word)
                self.assertTrue(inspect.isfunction(function), text)
                self.assertEqual(function.__module__, module.__name__)
                self.assertEqual(",".join(inspect.signature(function).parameters), parameters)

    def test_bench(self):
        listed = ("next_number() put(piece) tie(tag,other) back(number) doors() deeds() mate(tag) whole() lot() finishes() "
                  "ties_left() twin()")
        self.assertEqual(Bench.__module__, "fittingdoors.benches")
        self.assertEqual(list(inspect.signature(Bench).parameters), [])
        for text in listed.split():
            word, parameters = text[:-1].split("(")
            self.assertTrue(inspect.isfunction(vars(Bench)[word]), text)
            self.assertEqual(",".join(list(inspect.signature(vars(Bench)[word]).parameters)[1:]), parameters)

    def test_all_modules_have_landed(self):
        # The headings of the interface, with its errors and its benches.
        self.assertEqual(len(LISTED) + 2, 52)
