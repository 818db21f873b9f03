"""Point 40: which closed lots are lots of pieces, and how many knots a parting needs."""

import random

from fittingdoors.errors import BadLot, BadNumber, BadParting
from fittingdoors.lotting import lot_of
from fittingdoors.makers import tree_piece
from fittingdoors.origins import knots_needed, piece_of, why_none
from fittingdoors.pieces import is_piece
from fittingdoors.shifting import shift_classes
from fittingdoors.turning import closed, closed_lots, turned
from tests import brute
from tests.brute import TestCase, all_of, wrong_kinds


class OriginTests(TestCase):
    def one(self, lot, doors):
        """Whether a closed lot is that of a piece."""
        if not lot:
            word = "empty"
        elif not turned(lot, doors):
            word = "all"
        else:
            word = "apart" if len(shift_classes(lot, doors)) > 1 else None
        self.check(word, why_none, lot, doors)
        piece = piece_of(lot, doors)
        if word is not None:
            self.assertIsNone(piece)
            return False
        self.plain(piece)
        self.assertTrue(is_piece(piece))
        self.assertEqual(lot_of(piece), lot)
        self.assertLessEqual(piece[1].count("either"), doors)
        self.assertEqual(piece_of(lot, doors), piece)
        return True

    def test_closed_lots_of_few_doors(self):
        for doors, many in ((1, 1), (2, 2), (3, 8), (4, 52)):
            self.assertEqual(sum(self.one(lot, doors) for lot in closed_lots(doors)), many)

    def test_closed_lots_of_five_and_six_doors(self):
        chance = random.Random(121)
        for doors in (5, 6):
            told = [self.one((), doors), self.one(all_of(doors), doors)]
            for blocks in (1, 2, doors - 1, doors):
                rows = [row for row in all_of(doors) if max(row) + 1 == blocks]
                for _ in range(60):
                    lot = closed(tuple(sorted(chance.sample(rows, min(len(rows), chance.randrange(1, 5))))), doors)
                    told.append(self.one(lot, doors))
            self.assertGreater(told.count(True), 30)
            self.assertGreater(told.count(False), 30)

    def test_each_shape_of_five_and_six_doors(self):
        # A closed lot of pairs has a door of one group with each of the other group, and the other way round.
        for doors in (4, 5, 6):
            for code in range(3 ** doors):
                groups = [code // 3 ** door % 3 for door in range(doors)]
                near = [door for door in range(doors) if groups[door] == 0]
                far = [door for door in range(doors) if groups[door] == 1]
                if near and far and near[0] < far[0] and code % 5 == 0:
                    pairs = [(one, two) for one in near for two in far]
                    lot = tuple(sorted(brute.parting([pair[0] if door in pair else ("x", door) for door in range(doors)])
                                       for pair in pairs))
                    self.assertTrue(self.one(lot, doors))
                    self.assertTrue(self.one(turned(lot, doors), doors))

    def test_no_piece_has_such_a_lot(self):
        chance = random.Random(122)
        bad = {doors: [lot for lot in closed_lots(doors) if why_none(lot, doors) is not None] for doors in (3, 4)}
        for _ in range(200):
            piece = brute.sound_piece(chance, chance.choice((3, 4)), 7)
            self.assertNotIn(closed(lot_of(piece), piece[0]), bad[piece[0]])

    def test_names(self):
        self.check("apart", why_none, lot=((0, 0, 1, 1), (0, 1, 1, 0)), number=4)
        self.check(None, piece_of, lot=((0, 0, 1, 1), (0, 1, 1, 0)), number=4)
        self.check((1, 2), knots_needed, parting=(0, 0, 1, 2, 0))

    def test_knots_needed(self):
        chance = random.Random(123)
        for doors in range(1, 7):
            for row in all_of(doors):
                told = knots_needed(row)
                self.plain(told)
                sorts = tree_piece(row)[1]
                self.assertEqual(told, (sorts.count("both"), sorts.count("either")))
        for _ in range(80):
            piece = brute.sound_piece(chance, chance.randrange(1, 7), 6)
            for row in lot_of(piece):
                both, either = knots_needed(row)
                self.assertLessEqual(both, piece[1].count("both"))
                self.assertLessEqual(either, piece[1].count("either"))
        self.check((58, 0), knots_needed, (0,) * 60)
        self.check((0, 60), knots_needed, tuple(range(60)))

    def test_refused(self):
        for call in (why_none, piece_of):
            for number in (*wrong_kinds(), 0, 7, 10 ** 999):
                self.refused(BadNumber, {"value": number}, call, None, number)
            self.refused(BadLot, {"word": "tuple"}, call, None, 6)
            self.refused(BadLot, {"word": "parting"}, call, ((0, 0),), 6)
            self.refused(BadLot, {"word": "order"}, call, ((0, 0), (0, 0)), 2)
            self.refused(BadLot, {"word": "closed"}, call, (), 1)
            self.refused(BadLot, {"word": "closed"}, call, ((0, 0, 1), (0, 1, 2)), 3)
            self.refused(BadLot, {"word": "closed"}, call, ((0, 0, 1, 2, 3), (0, 1, 1, 2, 3), (0, 1, 2, 2, 3)), 5)
            self.refused(BadLot, {"word": "size"}, call, ((0, 0, 0, 1, 2),), 5)
            self.refused(BadLot, {"word": "size"}, call, ((0, 0, 0, 1, 1, 2),), 6)
            self.refused(BadLot, {"word": "size"}, call, turned(((0, 0, 0, 1, 1, 2),), 6), 6)
            rows = [row for row in all_of(5) if max(row) == 2]
            for lot in zip(rows[::2], rows[1::2]):
                word = "size" if brute.closed(lot, 5) == lot else "closed"
                self.refused(BadLot, {"word": word}, call, lot, 5)
        for value in [*wrong_kinds(), 0, (), (0,) * 61]:
            self.refused(BadParting, {"place": None}, knots_needed, value)
        self.refused(BadParting, {"place": 0}, knots_needed, (1,))
