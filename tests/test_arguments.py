"""Points 0, 2 and 3: which wrong argument is told, arguments by place and by name, none is changed."""

import copy
import itertools

from fittingdoors import (alike, always, besides, between, chains, compared, counted, cutting, finer, finishing,
                          formcounts, formlots, forms, glueing, halves, holes, inbetween, joining, lettering, letters,
                          logs, loosening, lots, lotting, makers, meeters, meeting, melting, order, origins, parsing,
                          partings, pieces, prices, routes, selecting, settings, sheets, shifting, states, tables, terms,
                          texts, together, toldback, turning, tying, vanishing, wirings, woods)
from fittingdoors.errors import (BadDoor, BadForm, BadLetter, BadLot, BadName, BadNumber, BadParting, BadPiece,
                                 BadSetting, BadTerm, BadText, BadTies, NotSound, TooGreat)
from tests.brute import GREAT, TestCase

ROW = (0, 0, 1)
OTHER = (0, 1, 1)
SIXTY = (0,) * 60
EITHER = (3, ("either",), (((-1, 0), (0, 0)), ((-1, 1), (0, 1)), ((-1, 2), (0, 2))))
EMPTY = (0, (), ())
THIRTEEN = (13, ("either",) * 13, tuple(line for knot in range(13) for line in
                                        (((knot, 0), (knot, 1)), ((-1, knot), (knot, 2)))))

# An argument: its name, a right value, and wrong values each with the error and its fields.
NO_PARTING = [(None, BadParting, {"place": None}), ([0, 0, 1], BadParting, {"place": None}),
              ((0, True, 1), BadParting, {"place": 1}), ((0,) * 61, BadParting, {"place": None})]
UNLIKE = [((0, 0), BadNumber, {"value": 2}), (SIXTY, BadNumber, {"value": 60})]
PARTING = ("parting", ROW, NO_PARTING)
SECOND = ("other", OTHER, NO_PARTING + UNLIKE)
THIRD = ("third", OTHER, NO_PARTING + UNLIKE)
FREE = ("other", OTHER, NO_PARTING)
NO_DOOR = [(value, BadDoor, {"door": value}) for value in (None, True, -1, 3, GREAT, "0", (0,))]
NO_NUMBER = [(value, BadNumber, {"value": value}) for value in (None, False, -1, GREAT, "0", (0,))]
NO_PIECE = [(None, BadPiece, {"word": "form", "place": None}), ((1, (), ()), BadPiece, {"word": "ends", "place": None}),
            ((3, ("x",), (1,)), BadPiece, {"word": "knots", "place": 0}),
            ((3, ("both",), (1,)), BadPiece, {"word": "lines", "place": 0})]
PIECE = ("piece", EITHER, NO_PIECE)
OTHER_PIECE = ("other", EITHER, NO_PIECE)
FEW = ("piece", EITHER, NO_PIECE + [(THIRTEEN, TooGreat, {"most": 12})])
FEW_DOORS = ("piece", EITHER, FEW[2] + [(EMPTY, TooGreat, {"most": 6})])
WITHOUT = ("piece", EMPTY, NO_PIECE + [(EITHER, BadPiece, {"word": "doors", "place": None})])
SETTING = ("setting", (1,), [(value, BadSetting, {}) for value in (None, (), (2,), (True,), [1])])
TIES = ("ties", ((0, 1),), [([], BadTies, {"place": None}), (((0, 1), (1, 3)), BadTies, {"place": 1})])
HALF = ("half", (None, 0, 0), [((None, 0), BadParting, {"place": None}), ((None, 0, 2), BadParting, {"place": 2})])
MANY = ("number", 3, [(value, BadNumber, {"value": value}) for value in (None, 0, 7, "3", True)])
LOT = ("lot", (ROW, OTHER), [([], BadLot, {"word": "tuple"}), ((ROW, ROW), BadLot, {"word": "order"}),
                             ((ROW, (0, 0)), BadLot, {"word": "parting"})])
OTHER_LOT = ("other", (OTHER, (0, 1, 2)), LOT[2])
OTHER_MANY = ("other_number", 3, MANY[2])
LOTS = [LOT, MANY, OTHER_LOT, OTHER_MANY]
LOTS_ORDER = ("number", "lot", "other_number", "other")
CLOSED_LOT = ("lot", (OTHER,), LOT[2] + [((ROW, (0, 1, 2)), BadLot, {"word": "closed"})])
SECOND_DOORS = ("other", EITHER, FEW_DOORS[2] + [((2, (), (((-1, 0), (-1, 1)),)), BadNumber, {"value": 2})])
BARRED = (2, ("either", "both"), (((-1, 0), (0, 0)), ((0, 1), (1, 0)), ((0, 2), (1, 1)), ((1, 2), (-1, 1))))
SOUND = ("piece", EITHER, FEW[2] + [(EMPTY, BadNumber, {"value": 0}), (BARRED, NotSound, {"setting": (1,)})])
OF_PIECE = ("parting", ROW, NO_PARTING + UNLIKE)
ONE_TIE = ("ties", ((0, 2),), TIES[2])
NOT_ALL = ("ties", ((0, 2),), TIES[2] + [(((0, 0), (1, 1), (2, 2)), BadTies, {"place": None})])
HOLE = ("hole", (1, 0), [((), BadDoor, {"door": ()}), ((0, 0), BadDoor, {"door": 0}), ((0, 3), BadDoor, {"door": 3})])
GOAL = ("goal", ((0,),), [(None, BadLot, {"word": "tuple"}), (((0, 0),), BadLot, {"word": "parting"})])
FILLS = [LOT, MANY, HOLE, GOAL]
PAPER = ("paper", ((ROW, None), (ROW, None)), [(None, BadLot, {"word": "paper"})])

SOME = ("lot", (ROW,), LOT[2] + [((), BadLot, {"word": "empty"})])
LINK = [("lot", ((0, 1),), LOT[2][:1] + [((ROW,), BadLot, {"word": "parting"}), ((), BadLot, {"word": "empty"})]),
        ("doors", 2, [(3, BadNumber, {"value": 3}), (None, BadNumber, {"value": None})])]
CUTS = ("lines", (0, 2), [(None, BadNumber, {"value": None}), ((2, 2), BadNumber, {"value": 2}),
                          ((3,), BadNumber, {"value": 3})])
ONE_LETTER = (2, (1,), (ROW,))
NO_ALPHABET = [(None, BadLetter, {"number": None}), ((ONE_LETTER, (1, (), ())), BadLetter, {"number": 1})]
ALPHABET = ("alphabet", (ONE_LETTER, (1, (), ((0,),))), NO_ALPHABET)
ROWS = ("rows", ((2, (1,), EITHER), (1, (), (1, ("either",), (((-1, 0), (0, 2)), ((0, 0), (0, 1)))))),
        [(None, BadLetter, {"number": None}), (((1, (1,), EITHER),), BadLetter, {"number": 0})])
TERM = ("term", (0, (1,)), [(None, BadTerm, {"path": ()}), ((0, (0, (1,))), BadTerm, {"path": (0,)})])
SYSTEM = ("system", (ALPHABET[1], 2, ((0, 0),)), [
    (None, BadLetter, {"number": None}), ((NO_ALPHABET[1][0], None, None), BadLetter, {"number": 1}),
    ((ALPHABET[1], 6, None), BadNumber, {"value": 6}), ((ALPHABET[1], 2, ()), BadLot, {"word": "empty"})])
STANDING = ((2, (1,), ((0, 0, 0),)), (1, (), ((0,),)))
OTHER_SYSTEM = ("other", SYSTEM[1], SYSTEM[2] + [(((ONE_LETTER,), 2, ((0, 0),)), BadLetter, {"number": None}), (
    ((ONE_LETTER, (2, (), ((0, 1),))), 2, ((0, 0),)), BadLetter, {"number": 1})])
LETTERS = ("number", 2, [(41, BadNumber, {"value": 41}), (None, BadNumber, {"value": None})])
FORM = ("form", ("both", 0, ("either", 1, 2)), [
    (None, BadForm, {"path": ()}), (("both", 0, ("either", 1, 1)), BadForm, {"path": (2, 2)}),
    (("both", 0, ("either", 1, 3)), BadForm, {"path": ()})])
OTHER_FORM = ("other", ("either", 0, ("either", 1, 2)), FORM[2] + [(0, BadNumber, {"value": 1})])
TWO_MANY = ("number", 3, [(value, BadNumber, {"value": value}) for value in (None, 0, 6, GREAT)])
PAIR = (4, ("both", "either"), (((-1, 0), (0, 0)), ((-1, 1), (0, 1)), ((-1, 2), (1, 0)), ((-1, 3), (1, 1)),
                                ((0, 2), (1, 2))))
WIRING = ("wiring", (1, 0), [(None, BadDoor, {"door": None}), ((1, 1), BadDoor, {"door": 1}),
                             ((1, 2, 0), BadDoor, {"door": 0})])
OTHER_WIRING = ("other", (1, 0), WIRING[2] + [((), BadNumber, {"value": 0})])
WOODEN = ("piece", EITHER, FEW_DOORS[2] + [(BARRED, NotSound, {"setting": (1,)})])
OTHER_WOODEN = ("other", EITHER, WOODEN[2] + SECOND_DOORS[2][-1:])


def text_of(right, bad):
    """A text, and others of which the first character that can't be read is told, and which is none."""
    return "text", right, [(None, BadText, {"line": None, "column": None})] + bad


UNREAD = [("x", BadText, {"line": 0, "column": 0}), ("", BadText, {"line": 0, "column": 0})]

# The functions with their arguments; the last thing tells the order in which they are looked at,
# where it is another than their own.
CALLS = [
    (partings.need_parting, [PARTING]), (partings.size_of, [PARTING]), (partings.blocks_of, [PARTING]),
    (partings.parting_of, [("blocks", (5, 3), [(None, BadParting, {"place": None}), ((5, "x"), BadParting, {"place": 1})])]),
    (partings.all_partings, [("number", 3, [(61, BadNumber, {"value": 61}), (9, TooGreat, {"most": 5000})])]),
    (selecting.parting_of_some, [PARTING, ("doors", (2, 0), [((), BadDoor, {"door": ()}), ((0, 3), BadDoor, {"door": 3})])]),
    (selecting.beside, [PARTING, FREE]),
    (finer.is_finer, [PARTING, SECOND]), (finer.finest_above, [PARTING, SECOND]), (finer.coarsest_below, [PARTING, SECOND]),
    (between.between_number, [PARTING, SECOND]), (between.number_between, [PARTING, SECOND, THIRD]),
    (between.between_at, [PARTING, ("other", (0, 0, 0), SECOND[2]), ("number", 0, NO_NUMBER)]),
    (meeting.meet_in_tree, [PARTING, SECOND]), (meeting.meet_in_wood, [PARTING, SECOND]),
    (meeting.is_ring, [PARTING, SECOND, ("doors", (0, 1), [])]), (meeting.ring, [PARTING, SECOND]),
    (routes.way, [PARTING, SECOND, ("door", 0, NO_DOOR), ("other_door", 2, NO_DOOR)]),
    (routes.sides, [PARTING, SECOND, ("door", 0, NO_DOOR)]), (routes.moves, [PARTING, SECOND]),
    (meeters.meeting_number, [PARTING]), (meeters.all_meeting, [PARTING]),
    (meeters.meeting_by_sizes, [PARTING, ("sizes", (2, 1), [((1, 2), BadNumber, {"value": (1, 2)})])]),
    (meeters.meeting_pairs, [("number", 3, [(0, BadNumber, {"value": 0})])]),
    (halves.completions_number, [PARTING, HALF]),
    (halves.completion_at, [PARTING, HALF, ("number", 0, NO_NUMBER)]),
    (halves.number_of_completion, [PARTING, HALF, SECOND]),
    (pieces.need_piece, [PIECE]), (pieces.plain_piece, [PIECE]), (pieces.piece_size, [PIECE]),
    (settings.either_knots, [PIECE]), (settings.need_setting, [PIECE, SETTING]), (settings.left_by, [PIECE, SETTING]),
    (settings.why_barred, [PIECE, SETTING]), (settings.is_reason, [PIECE, SETTING, ("reason", ("ring", ()), [])]),
    (lotting.is_sound, [FEW]), (lotting.bad_setting, [FEW]), (lotting.need_sound, [FEW]), (lotting.lot_of, [FEW_DOORS]),
    (lotting.settings_leaving, [FEW_DOORS, PARTING]),
    (melting.melting, [PIECE, ("parting", ROW, NO_PARTING + UNLIKE)]),
    (melting.fits_tree, [PIECE, ("parting", ROW, NO_PARTING + UNLIKE)]),
    (melting.stands, [WITHOUT]), (melting.barred_setting, [WITHOUT]),
    (joining.joined, [PIECE, OTHER_PIECE, TIES]), (joining.tied, [PIECE, TIES]), (joining.fit, [PIECE, OTHER_PIECE]),
    (makers.tree_piece, [("parting", ROW, NO_PARTING + [((0,) * 41, TooGreat, {"most": 40})])]),
    (makers.knot_piece, [("sort", "both", [("x", BadName, {"name": "x"})])]),
    (makers.doors_in_order, [PIECE, ("order", (2, 1, 0), [((0, 1), BadDoor, {"door": (0, 1)})])]),
    (lots.need_lot, [LOT, MANY], ("number", "lot")), (turning.turned, [LOT, MANY], ("number", "lot")),
    (turning.closed, [LOT, MANY], ("number", "lot")), (turning.is_closed, [LOT, MANY], ("number", "lot")),
    (turning.closed_lots, [("number", 2, [(5, BadNumber, {"value": 5})])]),
    (order.met, [LOT, OTHER_LOT, MANY], ("number", "lot", "other")),
    (order.spanned, [LOT, OTHER_LOT, MANY], ("number", "lot", "other")),
    (besides.lots_beside, LOTS, LOTS_ORDER),
    (besides.side_parts, [("lot", (ROW,), LOT[2] + [((), BadLot, {"word": "empty"})]), MANY], ("number", "lot")),
    (alike.turned_piece, [FEW_DOORS]), (alike.parted, [FEW_DOORS, SECOND_DOORS]),
    (alike.goes_for, [FEW_DOORS, SECOND_DOORS]),
    (shifting.shifted, [PARTING, SECOND]), (shifting.shift_piece, [PARTING, SECOND]),
    (shifting.shift_classes, [LOT, MANY], ("number", "lot")),
    (finishing.left_partings, [SOUND]), (finishing.free_pairs, [SOUND]),
    (finishing.is_open, [SOUND, OF_PIECE]), (finishing.finished, [SOUND, OF_PIECE]),
    (origins.why_none, [CLOSED_LOT, MANY], ("number", "lot")), (origins.piece_of, [CLOSED_LOT, MANY], ("number", "lot")),
    (origins.knots_needed, [PARTING]),
    (glueing.glued, [PARTING, FREE, ONE_TIE]), (glueing.lots_joined, [*LOTS, NOT_ALL], (*LOTS_ORDER, "ties")),
    (glueing.lot_tied, [LOT, MANY, ONE_TIE], ("number", "lot", "ties")),
    (holes.fillers, FILLS, ("number", "lot", "hole", "goal")),
    (holes.no_filler_paper, FILLS, ("number", "lot", "hole", "goal")),
    (holes.fills_hole, [*FILLS, ("other", ((0, 1),), [(None, BadLot, {"word": "tuple"})])],
     ("number", "lot", "hole", "goal", "other")),
    (holes.need_no_filler_paper, [*FILLS, PAPER], ("number", "lot", "hole", "goal", "paper")),
    (tying.ties_come, [*LOTS, ONE_TIE], (*LOTS_ORDER, "ties")), (tying.ties_counted, LOTS, LOTS_ORDER),
    (tying.all_ties, [*LOTS, ("many", 1, [(4, BadNumber, {"value": 4})])], (*LOTS_ORDER, "many")),
    (tying.most_ties, LOTS, LOTS_ORDER),
    (together.doors_joined, [SOME, MANY], ("number", "lot")),
    (cutting.cut, [PIECE, CUTS]), (cutting.hanging, [PIECE]), (cutting.is_sound_by_parts, [PIECE, CUTS]),
    (prices.prices, [LOT, OTHER_LOT, MANY], ("number", "lot", "other")),
    (chains.chained, [*LINK, ("times", 3, NO_NUMBER)], ("doors", "lot", "times")),
    (chains.course, LINK, ("doors", "lot")), (chains.closed_course, LINK, ("doors", "lot")),
    (letters.need_alphabet, [ALPHABET]), (letters.need_term, [ALPHABET, TERM]), (letters.alphabet_of, [ROWS]),
    (letters.term_piece, [ROWS, TERM]),
    (terms.term_lot, [ALPHABET, TERM]), (terms.gains, [ALPHABET]), (terms.need_system, [SYSTEM]),
    (terms.term_stands, [SYSTEM, TERM]), (states.all_states, [ALPHABET]), (states.state_of, [ALPHABET, TERM]),
    (tables.least_table, [SYSTEM]), (tables.class_of, [SYSTEM, TERM]),
    (always.least_standing, [SYSTEM]), (always.least_fallen, [SYSTEM]), (always.greatest_standing, [SYSTEM]),
    (always.all_closers, [ALPHABET, ("width", 2, [(0, BadNumber, {"value": 0}), (6, BadNumber, {"value": 6})])]),
    (compared.parted_by, [SYSTEM, OTHER_SYSTEM]), (compared.letters_alike, [SYSTEM]),
    (counted.standing_counted, [SYSTEM, LETTERS]), (counted.standing_place, [SYSTEM, TERM]),
    (counted.standing_term, [(SYSTEM[0], (STANDING, 2, ((0, 1),)), SYSTEM[2]), LETTERS, ("place", 0, NO_NUMBER)]),
    (forms.leaves, [FORM]), (forms.dual, [FORM]), (forms.plain, [FORM]), (forms.web, [FORM]), (forms.form_piece, [FORM]),
    (forms.is_same, [FORM, ("other", 0, FORM[2])]),
    (forms.step, [FORM, ("path", (2,), [(None, BadForm, {"path": None}), ((1,), BadForm, {"path": (1,)})]),
                  ("word", "turn", [(None, BadName, {"name": None})])], ("form", "word", "path")),
    (formcounts.form_count, [("number", 3, [(41, BadNumber, {"value": 41})])]),
    (formcounts.all_forms, [("number", 3, [(6, BadNumber, {"value": 6})])]),
    (formlots.form_lot_size, [FORM]), (formlots.form_parting, [FORM, ("place", 1, NO_NUMBER)]),
    (formlots.form_place, [FORM, OF_PIECE]), (formlots.unmet, [FORM, OF_PIECE]),
    (toldback.form_of_lot, [LOT, MANY], ("number", "lot")), (toldback.form_alike, [LOT, MANY], ("number", "lot")),
    (loosening.is_looser, [FORM, OTHER_FORM]), (loosening.loosened, [FORM, OTHER_FORM]),
    (inbetween.forms_between, [LOT, OTHER_LOT, TWO_MANY], ("number", "lot", "other")),
    (vanishing.vanishing_pairs, [PIECE]), (vanishing.clashing_pairs, [PIECE]), (vanishing.vanished, [PIECE]),
    (vanishing.vanishings, [PIECE]), (vanishing.vanished_pair, [("piece", PAIR, NO_PIECE), ("knot", 0, NO_NUMBER)]),
    (wirings.need_wiring, [WIRING]), (wirings.wiring_piece, [WIRING]), (wirings.wirings_joined, [WIRING, OTHER_WIRING]),
    (wirings.wiring_of, [("piece", EMPTY, NO_PIECE + [(EITHER, BadPiece, {"word": "knots", "place": 0})])]),
    (wirings.wiring_power, [WIRING, ("number", 7, NO_NUMBER)]), (wirings.ring_loops, [WIRING, ("number", 7, NO_NUMBER)]),
    (woods.wood_left_by, [PIECE, SETTING]), (woods.ringing_setting, [FEW]), (woods.wood_lot, [WOODEN]),
    (woods.wood_turned, [LOT, MANY], ("number", "lot")), (woods.wood_closed, [LOT, MANY], ("number", "lot")),
    (woods.wood_parted, [WOODEN, OTHER_WOODEN]),
    (lettering.is_name, [("value", "a", [])]),
    (texts.parting_text, [PARTING]), (texts.lot_text, [LOT, MANY], ("number", "lot")), (texts.piece_text, [PIECE]),
    (texts.form_text, [FORM]),
    (parsing.parse_parting, [text_of("0 1", UNREAD + [("0 2", BadParting, {"place": 1})])]),
    (parsing.parse_lot, [text_of("2\n0 1", UNREAD + [("2\n0 2", BadLot, {"word": "parting"})])]),
    (parsing.parse_piece, [text_of("0", UNREAD + [("1", BadPiece, {"word": "ends", "place": None})])]),
    (parsing.parse_form, [text_of("(0 * 1)", UNREAD + [("(0 * 0)", BadForm, {"path": (2,)})])]),
    (sheets.judged, [text_of("stands a", UNREAD + [("lot a\n- 1\nlot a\n- 1\nstands a", BadName, {"name": "a"})])]),
    (sheets.sheet_entries, [text_of("lot a\n- 1\nstands a", UNREAD)]),
]


class ArgumentTests(TestCase):
    def test_first_wrong_argument(self):
        for call, told, *order in CALLS:
            names = [name for name, _, _ in told]
            choices = [[(right, None, None)] + wrong for _, right, wrong in told]
            for picked in itertools.product(*choices):
                values = [value for value, _, _ in picked]
                kept = copy.deepcopy(values)
                wrong = {name: (error, fields) for name, (_, error, fields) in zip(names, picked) if error}
                first = [name for name in (order[0] if order else names) if name in wrong]
                if first:
                    error, fields = wrong[first[0]]
                    self.refused(error, fields, call, *values)
                    self.refused(error, fields, call, **dict(zip(names, values)))
                else:
                    self.assertEqual(call(*values), call(**dict(zip(names, values))))
                    self.assertEqual(call(*values), call(*values))
                self.assertEqual(values, kept)

    def test_logs(self):
        # What is read is equal to itself alone, so two calls tell benches with the same deeds.
        for text, error, fields in text_of("next 1", UNREAD + [("next 402", BadNumber, {"value": 402})])[2]:
            self.refused(error, fields, logs.read_log, text)
            self.refused(error, fields, logs.read_log, text=text)
        text = "next 3\nput 1\n- 2\n- d0 d1\ntie 2 1.0 1.1"
        one, two = logs.read_log(text), logs.read_log(text=text)
        self.assertEqual((one.deeds(), one.next_number()), (two.deeds(), two.next_number()))
        self.assertEqual(logs.log_text(one), logs.log_text(bench=two))
