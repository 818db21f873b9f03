"""Points 18 and 32: tree pieces, pieces of one knot, doors in another order."""

import itertools
import random

from fittingdoors.errors import BadDoor, BadName, BadParting, BadPiece, TooGreat
from fittingdoors.lotting import lot_of
from fittingdoors.makers import doors_in_order, knot_piece, tree_piece
from fittingdoors.pieces import is_piece, plain_piece
from fittingdoors.settings import left_by
from tests import brute
from tests.brute import GREAT, TestCase, wrong_kinds


def right_tree(row):
    """The tree piece by the words of the document, block by block."""
    sorts = []
    lines = []
    for block in range(max(row) + 1):
        doors = [(-1, door) for door in range(len(row)) if row[door] == block]
        if len(doors) == 1:
            knot = len(sorts)
            sorts.append("either")
            lines += [((knot, 0), (knot, 1)), (doors[0], (knot, 2))]
        elif len(doors) == 2:
            lines.append((doors[0], doors[1]))
        else:
            first = len(sorts)
            for at in range(len(doors) - 2):
                knot = first + at
                sorts.append("both")
                lines.append((doors[0] if at == 0 else (knot - 1, 2), (knot, 0)))
                lines.append((doors[at + 1], (knot, 1)))
            lines.append((doors[-1], (len(sorts) - 1, 2)))
    return len(row), tuple(sorts), tuple(sorted(tuple(sorted(line)) for line in lines))


class MakerTests(TestCase):
    def test_tree_to_the_byte(self):
        self.check((1, ("either",), (((-1, 0), (0, 2)), ((0, 0), (0, 1)))), tree_piece, (0,))
        self.check((2, (), (((-1, 0), (-1, 1)),)), tree_piece, parting=(0, 0))
        self.check((3, ("both",), (((-1, 0), (0, 0)), ((-1, 1), (0, 1)), ((-1, 2), (0, 2)))), tree_piece, (0, 0, 0))
        self.check((7, ("both", "both", "either"),
                    (((-1, 0), (0, 0)), ((-1, 1), (2, 2)), ((-1, 2), (0, 1)), ((-1, 3), (1, 1)), ((-1, 4), (-1, 5)),
                     ((-1, 6), (1, 2)), ((0, 2), (1, 0)), ((2, 0), (2, 1)))), tree_piece, (0, 1, 0, 0, 2, 2, 0))

    def test_tree_of_all_small_partings(self):
        for doors in range(1, 8):
            for row in brute.partings(doors):
                piece = tree_piece(row)
                self.check(right_tree(row), tree_piece, row)
                self.check(piece, plain_piece, piece)
                for setting in brute.settings(piece):
                    self.check(row, left_by, piece, setting)
                if doors < 7:
                    self.check((row,), lot_of, piece)

    def test_great_trees(self):
        chance = random.Random(33)
        rows = [tuple(range(40)), (0,) * 40, tuple(door // 2 for door in range(40)), tuple(door % 3 for door in range(40))]
        rows += [brute.parting([chance.randrange(20) for _ in range(40)]) for _ in range(10)]
        for row in rows:
            piece = tree_piece(row)
            self.assertTrue(is_piece(piece))
            self.check(right_tree(row), tree_piece, row)
            setting = tuple(chance.randrange(2) for _ in range(piece[1].count("either")))
            self.check(row, left_by, piece, setting)

    def test_wrong_partings(self):
        for value in [*wrong_kinds(), (), (0,) * 61, 0]:
            self.refused(BadParting, {"place": None}, tree_piece, value)
        self.refused(BadParting, {"place": 45}, tree_piece, (0,) * 45 + (2,))
        for doors in (41, 60):
            self.refused(TooGreat, {"most": 40}, tree_piece, (0,) * doors)

    def test_knot_piece(self):
        lines = (((-1, 0), (0, 0)), ((-1, 1), (0, 1)), ((-1, 2), (0, 2)))
        self.check((3, ("both",), lines), knot_piece, "both")
        self.check((3, ("either",), lines), knot_piece, sort="either")
        self.check(((0, 0, 0),), lot_of, knot_piece("both"))
        self.check(((0, 1, 0), (0, 1, 1)), lot_of, knot_piece("either"))
        for value in [*wrong_kinds(), "Both", "both ", "bot", ("both",), 0, GREAT, b"both"]:
            if value != "both":
                self.refused(BadName, {"name": value}, knot_piece, value)

    def test_order(self):
        either = knot_piece("either")
        self.check((3, ("either",), (((-1, 0), (0, 2)), ((-1, 1), (0, 0)), ((-1, 2), (0, 1)))),
                   doors_in_order, either, (2, 0, 1))
        self.check((0, (), ()), doors_in_order, piece=(0, (), ()), order=())
        chance = random.Random(34)
        for doors in (1, 2, 3, 4):
            for _ in range(6):
                piece = brute.standing_piece(chance, 4 + doors % 2, doors)
                for order in itertools.permutations(range(doors)):
                    told = doors_in_order(piece, order)
                    self.check(told, plain_piece, told)
                    across = {end: line[1 - at] for line in piece[2] for at, end in enumerate(line)}
                    lines = {end: line[1 - at] for line in told[2] for at, end in enumerate(line)}
                    for number, door in enumerate(order):
                        far = across[-1, door]
                        far = (-1, order.index(far[1])) if far[0] == -1 else far
                        self.assertEqual(lines[-1, number], far)
                    self.assertEqual(told[:2], piece[:2])
                    for setting in brute.settings(piece):
                        row = left_by(piece, setting)
                        self.check(brute.parting([row[door] for door in order]), left_by, told, setting)

    def test_great_order(self):
        piece = brute.random_piece(random.Random(35), 40, ["either"] * 200)
        self.check(plain_piece(piece), doors_in_order, piece, tuple(range(40)))
        back = tuple(range(39, -1, -1))
        self.check(plain_piece(piece), doors_in_order, doors_in_order(piece, back), back)

    def test_wrong_orders(self):
        either = knot_piece("either")
        for value in [*wrong_kinds(), 0, GREAT, (), (0, 1), (0, 1, 2, 3), (0, 1, 1), (0, 1, 3), (-1, 0, 1), [0, 1, 2],
                      (0, True, 2), (False, 1, 2), (0, 1, None), (0, "1", 2), (0, 1, (2,)), (0, 1, GREAT), "012"]:
            self.refused(BadDoor, {"door": value}, doors_in_order, either, value)
        for value in [*wrong_kinds(), (0,)]:
            self.refused(BadDoor, {"door": value}, doors_in_order, (0, (), ()), value)
        self.refused(BadPiece, {"word": "form", "place": None}, doors_in_order, "x", "x")
