"""Points 13, 27 and 29: the rules of pieces, plain pieces and sizes."""

import random

from fittingdoors.errors import BadPiece
from fittingdoors.pieces import is_piece, need_piece, piece_fault, piece_size, plain_piece
from tests import brute
from tests.brute import GREAT, TestCase, wrong_kinds

BOTH = (3, ("both",), (((-1, 0), (0, 0)), ((-1, 1), (0, 1)), ((-1, 2), (0, 2))))
EMPTY = (0, (), ())
LOOSE = tuple(((-1, 2 * at), (-1, 2 * at + 1)) for at in range(20))


def with_line(line, place=1):
    """The piece of a BOTH knot with another thing in the place of one line."""
    lines = list(BOTH[2])
    lines[place] = line
    return BOTH[0], BOTH[1], tuple(lines)


def capped(knots):
    """Pieces without doors: each knot with left and right on one line, the lows two by two."""
    lines = [((knot, 0), (knot, 1)) for knot in range(knots)]
    lines += [((knot, 2), (knot + 1, 2)) for knot in range(0, knots, 2)]
    return 0, ("either",) * knots, tuple(lines)


def greatest():
    """40 doors, 200 knots, 320 lines."""
    chance = random.Random(10)
    return brute.random_piece(chance, 40, [chance.choice(("both", "either")) for _ in range(200)])


class PieceTests(TestCase):
    def good(self, piece):
        self.check(None, piece_fault, piece)
        self.check(True, is_piece, piece)
        self.check(piece, need_piece, piece)

    def bad(self, value, word, place):
        self.check((word, place), piece_fault, value)
        self.check(False, is_piece, value)
        for call in (need_piece, plain_piece, piece_size):
            self.refused(BadPiece, {"word": word, "place": place}, call, value)

    def test_good_ones(self):
        for piece in (BOTH, EMPTY, (2, (), (((-1, 1), (-1, 0)),)), (40, (), LOOSE), capped(200), greatest()):
            self.good(piece)
        for doors, knots in ((1, 1), (3, 1), (0, 2), (2, 2), (2, 0)):
            for piece in brute.small_pieces(doors, knots):
                self.good(piece)

    def test_names(self):
        self.check(None, piece_fault, value=BOTH)
        self.check(True, is_piece, value=BOTH)
        self.check(BOTH, need_piece, piece=BOTH)
        self.check(BOTH, plain_piece, piece=BOTH)
        self.check(1, piece_size, piece=BOTH)

    def test_form(self):
        for value in [*wrong_kinds(), 0, GREAT, (), (3,), (3, ()), (3, (), (), ()), list(BOTH)]:
            self.bad(value, "form", None)
        for value in [*wrong_kinds(), -1, 41, GREAT, -GREAT, (3,), ()]:
            self.bad((value, *BOTH[1:]), "form", None)
        for value in [*wrong_kinds(), 0, ("both",) * 201]:
            self.bad((3, value, BOTH[2]), "form", None)
        for value in [*wrong_kinds(), 0, (None,) * 321]:
            self.bad((3, ("both",), value), "form", None)
        self.bad((41, (), LOOSE), "form", None)
        self.bad(capped(202), "form", None)
        self.bad((0, ("either",) * 201, capped(200)[2]), "form", None)

    def test_knots(self):
        for value in [*wrong_kinds(), "Both", "both ", "low", 0, ("both",), b"both", ["both"]]:
            if value != "both":
                self.bad((3, (value,), BOTH[2]), "knots", 0)
                self.bad((6, ("either", value), ("x",)), "knots", 1)
                self.bad((6, ("either",) * 199 + (value,), ()), "knots", 199)

    def test_lines(self):
        values = [*wrong_kinds(), 0, (), (1,), ((-1, 1),), ((-1, 1), (0, 1), (0, 2)), [(-1, 1), (0, 1)]]
        ends = [*wrong_kinds(), (), (0,), (0, 3), (0, -1), (1, 0), (-2, 0), (-1, 3), (-1, -1), (0, 1, 2), [0, 1],
                (False, 1), (0, True), (-1, True), (True, 0), (0, None), (None, 0), ("0", 1), (GREAT, 0), (0, GREAT),
                (-GREAT, 0), (-1, GREAT), ((0, 1), 1), (0, (1,))]
        values += [(end, (0, 1)) for end in ends] + [((-1, 1), end) for end in ends]
        values += [((0, 1), (0, 1)), ((-1, 1), (-1, 1)), ((-1, 0), (0, 1)), ((-1, 1), (0, 0))]
        for value in values:
            self.bad(with_line(value), "lines", 1)
        self.bad(with_line(((-1, 0), (0, 1)), 2), "lines", 2)
        self.bad(with_line("x", 0), "lines", 0)
        self.bad((0, (), (((-1, 0), (-1, 1)),)), "lines", 0)
        big = greatest()
        for place in (0, 100, 319):
            self.bad((40, big[1], big[2][:place] + ("x",) + big[2][place + 1:]), "lines", place)
            if place:
                self.bad((40, big[1], big[2][:place] + (big[2][place - 1],) + big[2][place + 1:]), "lines", place)

    def test_ends(self):
        self.bad((3, ("both",), BOTH[2][:2]), "ends", None)
        self.bad((3, ("both",), ()), "ends", None)
        self.bad((4, ("both",), BOTH[2]), "ends", None)
        self.bad((1, (), ()), "ends", None)
        self.bad((0, ("both",), (((0, 0), (0, 1)),)), "ends", None)
        self.bad((40, ("either",) * 200, greatest()[2][:-1]), "ends", None)

    def test_two_rules_at_once(self):
        self.bad((3, ("bot",), [((-1, 0), (0, 0))]), "form", None)
        self.bad((True, (1,), ()), "form", None)
        self.bad((3, ("bot", 7), ("x",)), "knots", 0)
        self.bad((3, ("both", 7), ("x",)), "knots", 1)
        self.bad((3, ("both",), (((-1, 0), (0, 0)), "x")), "lines", 1)
        self.bad((3, ("both",), (((-1, 0), (0, 0)), ((-1, 0), (0, 1)), 3)), "lines", 1)
        self.bad((41, ("x",), ()), "form", None)

    def test_plain(self):
        turned_round = (3, ("both",), tuple((two, one) for one, two in BOTH[2][::-1]))
        self.check(BOTH, plain_piece, turned_round)
        self.check(EMPTY, plain_piece, EMPTY)
        chance = random.Random(11)
        for _ in range(100):
            piece = brute.random_piece(chance, chance.choice((0, 2, 4)), ["both"] * 2 + ["either"] * 2)
            told = plain_piece(piece)
            lines = tuple(sorted(tuple(sorted(line)) for line in piece[2]))
            self.assertEqual(told, (piece[0], piece[1], lines))
            self.check(told, plain_piece, told)
        self.assertEqual(len(plain_piece(greatest())[2]), 320)

    def test_size(self):
        self.check(0, piece_size, EMPTY)
        self.check(1, piece_size, BOTH)
        self.check(2, piece_size, (3, ("either",), BOTH[2]))
        self.check(100, piece_size, capped(200))
        self.check(-100, piece_size, (0, ("both",) * 200, capped(200)[2]))
        self.check(20, piece_size, (40, (), LOOSE))
        for doors, knots in ((1, 1), (3, 1), (2, 2)):
            for piece in brute.small_pieces(doors, knots):
                right = len(piece[2]) - 2 * piece[1].count("both") - piece[1].count("either")
                self.check(right, piece_size, piece)
                for setting in brute.settings(piece):
                    row = brute.left(piece, setting)
                    self.assertTrue(row is None or max(row) + 1 == right)
