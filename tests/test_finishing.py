"""Point 39: what settings leave, open partings, and finished ones."""

import itertools
import random

from fittingdoors.errors import BadNumber, BadParting, BadPiece, NotSound, TooGreat
from fittingdoors.finishing import finished, free_pairs, is_open, left_partings
from fittingdoors.lotting import is_sound
from fittingdoors.makers import knot_piece, tree_piece
from fittingdoors.melting import fits_tree
from tests import brute
from tests.brute import TestCase, all_of, wrong_kinds

ALL_CALLS = ((left_partings, ()), (free_pairs, ()), (is_open, ("x",)), (finished, ("x",)))


def made_one(row, one, two):
    return brute.parting([row[one] if block == row[two] else block for block in row])


def is_right_open(rows, row):
    return all(brute.in_wood(row, left) for left in rows)


def right_steps(rows, row):
    """All pairs whose blocks can be made one so that the parting stays open."""
    pairs = itertools.combinations(range(len(row)), 2)
    return [(one, two) for one, two in pairs if row[one] != row[two] and is_right_open(rows, made_one(row, one, two))]


def right_finished(rows, row):
    if not is_right_open(rows, row):
        return None
    steps = right_steps(rows, row)
    while steps:
        row = made_one(row, *steps[0])
        steps = right_steps(rows, row)
    return row


class FinishingTests(TestCase):
    def one(self, piece, most=60):
        doors = piece[0]
        rows = sorted({brute.left(piece, setting) for setting in brute.settings(piece)})
        self.check(tuple(rows), left_partings, piece)
        free = [(one, two) for one, two in itertools.combinations(range(doors), 2)
                if all(row[one] != row[two] for row in rows)]
        self.check(tuple(free), free_pairs, piece)
        self.assertTrue(free or max(rows[0]) == 0)
        meeting = [row for row in all_of(doors) if all(brute.meets(row, left) for left in rows)]
        for row in all_of(doors)[:most]:
            right = right_finished(rows, row)
            self.check(right is not None, is_open, piece, row)
            self.check(right, finished, piece, row)
            # Open are just those that are finer than one that meets all in a tree.
            self.assertEqual(right is not None, any(brute.finer(row, other) for other in meeting))
            if right is not None:
                self.assertIn(right, meeting)
                self.assertTrue(fits_tree(piece, right))

    def test_small_pieces(self):
        for doors, knots in ((1, 1), (2, 0), (2, 2), (3, 1), (4, 0)):
            rows = [piece for piece in brute.small_pieces(doors, knots) if brute.lot(piece) is not None]
            for piece in rows[::5]:
                self.one(piece)

    def test_some_pieces(self):
        chance = random.Random(111)
        for _ in range(25):
            self.one(brute.sound_piece(chance, chance.randrange(1, 6), 6))
        for _ in range(3):
            self.one(brute.sound_piece(chance, 6, 6), 30)

    def test_any_pair_may_be_taken(self):
        chance = random.Random(112)
        for _ in range(40):
            piece = brute.sound_piece(chance, chance.randrange(1, 7), 6)
            rows = left_partings(piece)
            row = tuple(range(piece[0]))
            steps = right_steps(rows, row)
            while steps:
                row = made_one(row, *chance.choice(steps))
                steps = right_steps(rows, row)
            self.assertTrue(all(brute.in_tree(row, left) for left in rows))

    def test_names(self):
        either = knot_piece("either")
        self.check(((0, 1, 0), (0, 1, 1)), left_partings, piece=either)
        self.check(((0, 1),), free_pairs, piece=either)
        self.check(True, is_open, piece=either, parting=(0, 1, 2))
        self.check((0, 0, 1), finished, piece=either, parting=(0, 1, 2))
        self.check(None, finished, piece=either, parting=(0, 1, 1))

    def test_many_doors(self):
        # Twelve EITHER knots, each with three doors, and four doors on two lines.
        lines = [((-1, 3 * knot + place), (knot, place)) for knot in range(12) for place in range(3)]
        lines += [((-1, 36), (-1, 38)), ((-1, 39), (-1, 37))]
        piece = (40, ("either",) * 12, tuple(lines))
        rows = left_partings(piece)
        self.assertEqual(len(rows), 4096)
        self.assertEqual(list(rows), sorted(set(rows)))
        self.assertEqual(len(free_pairs(piece)), 40 * 39 // 2 - 24 - 2)
        row = finished(piece, tuple(range(40)))
        self.assertTrue(fits_tree(piece, row))
        self.check(row, finished, piece, row)
        self.check(True, is_open, piece, row)
        tree = tree_piece((0,) * 40)
        self.check(((0,) * 40,), left_partings, tree)
        self.check((), free_pairs, tree)
        self.check(tuple(range(40)), finished, tree, tuple(range(40)))
        self.check(None, finished, tree, (0, *range(39)))
        # As many BOTH knots as there can be with twelve EITHER knots.
        chance = random.Random(113)
        piece = brute.standing_piece(chance, 24, 4)
        self.assertLessEqual(piece[1].count("either"), 12)
        self.check((0, 1, 2, 3), finished, piece, (0, 1, 2, 3))
        self.check(None, finished, piece, (0, 1, 1, 2))

    def test_refused(self):
        thirteen = tree_piece(tuple(range(13)))
        loop = (0, ("both",) * 2, (((0, 0), (0, 1)), ((0, 2), (1, 2)), ((1, 0), (1, 1))))
        barred = (2, ("either", "both"), (((-1, 0), (0, 0)), ((0, 1), (1, 0)), ((0, 2), (1, 1)), ((1, 2), (-1, 1))))
        self.assertFalse(is_sound(barred))
        for call, rest in ALL_CALLS:
            for value in [*wrong_kinds(), 0, (), (1, (), ())]:
                word = "ends" if value == (1, (), ()) else "form"
                self.refused(BadPiece, {"word": word, "place": None}, call, value, *rest)
            self.refused(TooGreat, {"most": 12}, call, thirteen, *rest)
            self.refused(BadNumber, {"value": 0}, call, loop, *rest)
            self.refused(BadNumber, {"value": 0}, call, (0, (), ()), *rest)
            self.refused(NotSound, {"setting": (1,)}, call, barred, *rest)
        either = knot_piece("either")
        for call in (is_open, finished):
            for value in [*wrong_kinds(), 0, (), (0,) * 61]:
                self.refused(BadParting, {"place": None}, call, either, value)
            self.refused(BadParting, {"place": 1}, call, either, (0, 2))
            self.refused(BadNumber, {"value": 2}, call, either, (0, 0))
            self.refused(BadNumber, {"value": 60}, call, either, (0,) * 60)
