"""Points 66 and 67: names, and texts of partings, lots, pieces and forms there and back."""

import itertools
import random
import re

from fittingdoors.errors import BadForm, BadLot, BadNumber, BadParting, BadPiece, BadText
from fittingdoors.lettering import is_name
from fittingdoors.parsing import parse_form, parse_lot, parse_parting, parse_piece
from fittingdoors.pieces import piece_fault
from fittingdoors.texts import form_text, lot_text, parting_text, piece_text
from tests import brute
from tests.brute import GREAT, TestCase, all_of, deep_form, random_form, wrong_kinds

TWO = r"(?:0|[1-9]\d?)"
END = r"(?:d" + TWO + r"|(?:0|[1-9]\d?\d?)[lrw])"
PARTING = TWO + "(?: " + TWO + "){0,59}"
LOT = "|".join(str(doors) + r"(?:\n[0-5]" + "(?: [0-5])" * (doors - 1) + "){0,203}" for doors in range(1, 7))
PIECE_FIRST = r"(?:0|[1-9]|[1-3]\d|40)(?: both| either){0,200}"
PIECE = PIECE_FIRST + r"(?:\n" + END + " " + END + "){0,320}"
SIGNS = "0123456789 \nbothiedrlw()*+.-xaz~"
EXAMPLE = (3, ("both",), (((-1, 2), (0, 0)), ((0, 1), (-1, 0)), ((-1, 1), (0, 2))))


def form_pattern(depth):
    told = TWO
    for _ in range(depth):
        told = r"(?:" + TWO + r"|\(" + told + r" [*+] " + told + r"\))"
    return told


def place_of(text, at):
    ahead = text[:at]
    return {"line": ahead.count("\n"), "column": len(ahead.split("\n")[-1])}


def right_place(text, pattern, tails):
    """Where a text is refused: a text that goes on from a beginning goes on from it by one of these tails."""
    def full(one):
        return re.fullmatch(pattern, one) is not None

    if full(text):
        return None
    for at in range(len(text)):
        if not any(full(text[:at + 1] + tail) for tail in tails):
            return place_of(text, at)
    return place_of(text, len(text))


def changed(chance, text):
    """The text with a few characters changed, put in, or left out."""
    for _ in range(chance.randrange(1, 3)):
        at = chance.randrange(len(text) + 1)
        kind = chance.randrange(4)
        if kind == 0:
            text = text[:at]
        elif kind == 1:
            text = text[:at] + text[at + 1:]
        elif kind == 2:
            text = text[:at] + chance.choice(SIGNS) + text[at:]
        else:
            text = text[:at] + chance.choice(SIGNS) + text[at + 1:]
    return text


PARTING_TAILS = ("", "0")
LOT_TAILS = ("", "1") + tuple(start + " 0" * many for start in ("", "0") for many in range(6))
PIECE_TAILS = ("", "0", "oth", "th", "h", "ither", "ther", "her", "er", "r", "both", "d0 d0", "0 d0", " d0", "d0", "l d0",
               "l")


def form_tails(depth):
    closers = [""]
    for _ in range(depth):
        closers += [more + tail for more in (")", " * 0)") for tail in closers if len(tail) < 6 * depth]
    closers = sorted(set(closers), key=len)
    return [start + tail for start in ("", "0", " * 0)", "* 0)", " 0)", "0)") for tail in closers]


FORM_TAILS = form_tails(3)


class NameTests(TestCase):
    def test_names(self):
        for value in ("a", "z", "abc", "abcdefghijkl", "zzzzzzzzzzzz", "name", "both"):
            self.check(True, is_name, value)
        for value in [*(one for one in wrong_kinds() if one != "both"), 0, (), ("a",), "", "abcdefghijklm", "A", "aB",
                      "a1", "a b", " a", "a ", "a\n", "a_", "`", "{", "a-b", "a" * 5000]:
            self.check(False, is_name, value=value)


class TextTests(TestCase):
    def test_partings(self):
        self.check("0", parting_text, (0,))
        self.check("0 1 0 2", parting_text, parting=(0, 1, 0, 2))
        chance = random.Random(601)
        for doors in [*range(1, 61)] * 2:
            row = brute.parting([chance.randrange(doors) for _ in range(doors)])
            text = parting_text(row)
            self.assertEqual(text, " ".join(map(str, row)))
            self.check(row, parse_parting, text)
        self.check(tuple(range(60)), parse_parting, text=" ".join(map(str, range(60))))

    def test_lots(self):
        self.check("1", lot_text, (), 1)
        self.check("3\n0 0 1\n0 1 1", lot_text, lot=((0, 0, 1), (0, 1, 1)), number=3)
        chance = random.Random(602)
        for _ in range(60):
            doors = chance.randrange(1, 7)
            lot = brute.random_lot(chance, doors)
            text = lot_text(lot, doors)
            self.check((lot, doors), parse_lot, text)
            self.assertEqual(text.split("\n"), [str(doors)] + [" ".join(map(str, row)) for row in lot])
        for doors in range(1, 7):
            self.check((all_of(doors), doors), parse_lot, text=lot_text(all_of(doors), doors))

    def test_pieces(self):
        self.check("0", piece_text, (0, (), ()))
        self.check("3 both\nd2 0l\n0r d0\nd1 0w", piece_text, piece=EXAMPLE)
        self.check(EXAMPLE, parse_piece, text="3 both\nd2 0l\n0r d0\nd1 0w")
        chance = random.Random(603)
        for _ in range(60):
            knots = chance.randrange(12)
            doors = 2 * chance.randrange(20) + knots % 2
            piece = brute.random_piece(chance, doors, [chance.choice(("both", "either")) for _ in range(knots)])
            self.check(piece, parse_piece, piece_text(piece))
        piece = brute.random_piece(chance, 40, ["either", "both"] * 100)
        self.assertEqual(len(piece[2]), 320)
        self.check(piece, parse_piece, piece_text(piece))

    def test_forms(self):
        self.check("7", lambda form: form_text(form).replace("0", "7"), 0)
        self.check("((0 * 2) + 1)", form_text, form=("either", ("both", 0, 2), 1))
        self.check(("either", ("both", 0, 2), 1), parse_form, text="((0 * 2) + 1)")
        chance = random.Random(604)
        for _ in range(60):
            doors = chance.randrange(1, 41)
            form = random_form(chance, chance.sample(range(doors), doors))
            self.check(form, parse_form, form_text(form))
        for side in (1, 2):
            form = deep_form(40, "either", side)
            self.check(form, parse_form, form_text(form))

    def test_refused(self):
        for value in wrong_kinds():
            self.refused(BadParting, {"place": None}, parting_text, value)
            self.refused(BadLot, {"word": "tuple"}, lot_text, value, 1)
            self.refused(BadNumber, {"value": value}, lot_text, None, value)
            self.refused(BadPiece, {"word": "form", "place": None}, piece_text, value)
            self.refused(BadForm, {"path": ()}, form_text, value)
        self.refused(BadParting, {"place": 1}, parting_text, (0, 2))
        for number in (0, 7, GREAT):
            self.refused(BadNumber, {"value": number}, lot_text, None, number)
        self.refused(BadLot, {"word": "order"}, lot_text, ((0,), (0,)), 1)
        self.refused(BadPiece, {"word": "ends", "place": None}, piece_text, (1, (), ()))
        self.refused(BadForm, {"path": (2,)}, form_text, ("both", 0, 0))


class ParsingTests(TestCase):
    def one(self, call, text, pattern, tails):
        place = right_place(text, pattern, tails)
        if place is None:
            return 0
        self.refused(BadText, place, call, text)
        return 1

    def beginnings(self, call, text, pattern, tails):
        """All beginnings, and each sign behind each of them."""
        for at in range(len(text) + 1):
            self.one(call, text[:at], pattern, tails)
            for sign in SIGNS:
                self.one(call, text[:at] + sign, pattern, tails)
                self.one(call, text[:at] + sign + text[at + 1:], pattern, tails)

    def test_beginnings(self):
        self.beginnings(parse_parting, "0 1 10 0", PARTING, PARTING_TAILS)
        self.beginnings(parse_lot, "3\n0 0 1\n0 1 2", LOT, LOT_TAILS)
        self.beginnings(parse_lot, "1\n0\n0", LOT, LOT_TAILS)
        self.beginnings(parse_piece, "3 both either\nd2 0l\n0r d10\n123w d1", PIECE, PIECE_TAILS)
        self.beginnings(parse_piece, "40 either\n0l 0r", PIECE, PIECE_TAILS)
        self.beginnings(parse_form, "((0 * 12) + (3 * 4))", form_pattern(3), FORM_TAILS)
        self.beginnings(parse_form, "(0 + (1 * 2))", form_pattern(3), FORM_TAILS)

    def test_changed_texts(self):
        chance = random.Random(611)
        refused = 0
        for _ in range(400):
            doors = chance.randrange(1, 13)
            text = parting_text(brute.parting([chance.randrange(doors) for _ in range(doors)]))
            refused += self.one(parse_parting, changed(chance, text), PARTING, PARTING_TAILS)
            doors = chance.randrange(1, 7)
            text = lot_text(brute.random_lot(chance, doors), doors)
            refused += self.one(parse_lot, changed(chance, text), LOT, LOT_TAILS)
            doors = chance.randrange(1, 5)
            text = form_text(random_form(chance, chance.sample(range(doors), doors)))
            text = changed(chance, text)
            if text.count("(") < 4:
                # The pattern goes no deeper.
                refused += self.one(parse_form, text, form_pattern(3), FORM_TAILS)
        for _ in range(200):
            knots = chance.randrange(4)
            piece = brute.random_piece(chance, 2 + knots % 2, ["both"] * knots)
            refused += self.one(parse_piece, changed(chance, piece_text(piece)), PIECE, PIECE_TAILS)
        self.assertGreater(refused, 700)

    def test_no_strings(self):
        for call in (parse_parting, parse_lot, parse_piece, parse_form):
            for value in [*(one for one in wrong_kinds() if not isinstance(one, str)), 0, (), ("0",), GREAT]:
                self.refused(BadText, {"line": None, "column": None}, call, value)
            self.refused(BadText, {"line": 0, "column": 0}, call, "")

    def test_bounds_of_partings(self):
        text = " ".join(["0"] * 60)
        self.check((0,) * 60, parse_parting, text)
        self.refused(BadText, {"line": 0, "column": len(text)}, parse_parting, text + " 0")
        self.refused(BadText, {"line": 0, "column": len(text)}, parse_parting, text + " ")
        self.refused(BadText, {"line": 0, "column": len(text) - 1}, parse_parting, text[:-1])
        self.refused(BadText, {"line": 0, "column": 2}, parse_parting, "100")
        self.refused(BadText, {"line": 0, "column": 1}, parse_parting, "00")
        self.refused(BadText, {"line": 0, "column": 1}, parse_parting, "0\n0")
        self.refused(BadParting, {"place": 1}, parse_parting, "0 99")
        self.refused(BadParting, {"place": 0}, parse_parting, "1")

    def test_bounds_of_lots(self):
        text = lot_text(all_of(6), 6)
        self.assertEqual(len(text.split("\n")), 204)
        self.refused(BadText, {"line": 203, "column": 11}, parse_lot, text + "\n0 0 0 0 0 0")
        self.refused(BadText, {"line": 203, "column": 11}, parse_lot, text + "\n")
        self.refused(BadText, {"line": 203, "column": 11}, parse_lot, text + " ")
        self.refused(BadText, {"line": 203, "column": 10}, parse_lot, text[:-1])
        self.refused(BadText, {"line": 1, "column": 0}, parse_lot, "3\n")
        self.refused(BadText, {"line": 1, "column": 0}, parse_lot, "3\n6 0 0")
        self.refused(BadText, {"line": 0, "column": 0}, parse_lot, "7")
        self.refused(BadText, {"line": 0, "column": 1}, parse_lot, "10")
        self.refused(BadLot, {"word": "parting"}, parse_lot, "2\n0 5")
        self.refused(BadLot, {"word": "order"}, parse_lot, "2\n0 1\n0 1")
        self.refused(BadLot, {"word": "order"}, parse_lot, "1" + "\n0" * 203)
        self.refused(BadText, {"line": 203, "column": 1}, parse_lot, "1" + "\n0" * 204)

    def test_bounds_of_pieces(self):
        piece = brute.random_piece(random.Random(612), 40, ["either", "both"] * 100)
        text = piece_text(piece)
        first = text.split("\n")[0]
        last = text.split("\n")[-1]
        self.refused(BadText, {"line": 0, "column": len(first)}, parse_piece, text.replace("\n", " both\n", 1))
        self.refused(BadText, {"line": 320, "column": len(last)}, parse_piece, text + "\nd0 d0")
        self.refused(BadText, {"line": 0, "column": 1}, parse_piece, "41")
        self.refused(BadText, {"line": 0, "column": 2}, parse_piece, "400")
        self.refused(BadText, {"line": 0, "column": 1}, parse_piece, "00")
        self.refused(BadText, {"line": 0, "column": 1}, parse_piece, "50")
        self.refused(BadText, {"line": 0, "column": 6}, parse_piece, "4 boths")
        self.refused(BadText, {"line": 1, "column": 3}, parse_piece, "2\nd100 d1")
        self.refused(BadText, {"line": 1, "column": 3}, parse_piece, "2\n1000l d1")
        self.refused(BadText, {"line": 1, "column": 0}, parse_piece, "2\nl d1")
        # What can be read is looked at as a piece.
        for words in ("2\nd0 d1\nd0 d1", "2\nd99 d1", "2\n999l d1", "1", "3 both\nd0 0l\nd1 0r\nd2 0r", "0\n0l 0r"):
            lines = words.split("\n")
            value = (int(lines[0].split(" ")[0]), tuple(lines[0].split(" ")[1:]),
                     tuple(tuple((-1, int(end[1:])) if end[0] == "d" else (int(end[:-1]), "lrw".index(end[-1]))
                                 for end in line.split(" ")) for line in lines[1:]))
            word, place = piece_fault(value)
            self.refused(BadPiece, {"word": word, "place": place}, parse_piece, words)

    def test_bounds_of_forms(self):
        text = form_text(deep_form(40))
        self.assertTrue(text.startswith("(" * 39 + "0"))
        self.check(deep_form(40), parse_form, text)
        self.refused(BadText, {"line": 0, "column": 39}, parse_form, "(" + text)
        self.refused(BadText, {"line": 0, "column": len(text)}, parse_form, text + ")")
        self.refused(BadText, {"line": 0, "column": len(text) - 1}, parse_form, text[:-1])
        # Further brackets may stand behind those that are closed.
        self.refused(BadForm, {"path": (2, 2)}, parse_form, "((0 * 1) + (2 * 0))")
        self.refused(BadText, {"line": 0, "column": 2}, parse_form, "100")
        self.refused(BadText, {"line": 0, "column": 1}, parse_form, "00")
        self.refused(BadForm, {"path": ()}, parse_form, "99")
        self.refused(BadForm, {"path": ()}, parse_form, "1")
        self.refused(BadForm, {"path": (1,)}, parse_form, "(40 * 0)")
        side = "0"
        for door in range(1, 40):
            side = "(" + str(door) + " + " + side + ")"
        self.check(deep_form(40, "either", 2), parse_form, side)
        self.refused(BadText, {"line": 0, "column": self.deepest("(0 + " + side + ")")}, parse_form,
                     "(0 + " + side + ")")

    def deepest(self, text):
        """The place of the first bracket within 39 others."""
        depth = 0
        for at, sign in enumerate(text):
            depth += (sign == "(") - (sign == ")")
            if depth == 40:
                return at

    def test_all_short_texts(self):
        for many in range(4):
            for signs in itertools.product("01 \n(*d", repeat=many):
                text = "".join(signs)
                self.one(parse_parting, text, PARTING, PARTING_TAILS)
                self.one(parse_lot, text, LOT, LOT_TAILS)
                self.one(parse_piece, text, PIECE, PIECE_TAILS)
                self.one(parse_form, text, form_pattern(3), FORM_TAILS)
