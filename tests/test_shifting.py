"""Point 38: partings that are a shift apart, classes of a lot, and pieces that leave just two partings."""

import itertools
import random

from fittingdoors.errors import BadLot, BadNumber, BadParting, TooGreat
from fittingdoors.lotting import lot_of
from fittingdoors.pieces import is_piece, piece_size
from fittingdoors.settings import left_by
from fittingdoors.shifting import shift_classes, shift_piece, shifted
from tests import brute
from tests.brute import TestCase, all_of, wrong_kinds


def shifts(row):
    """Each parting that is a shift from this one, with the doors that go over."""
    told = {}
    for old, new in itertools.permutations(range(max(row) + 1), 2):
        doors = [door for door in range(len(row)) if row[door] == old]
        for many in range(1, len(doors)):
            for over in itertools.combinations(doors, many):
                other = brute.parting([new if door in over else block for door, block in enumerate(row)])
                assert other not in told
                told[other] = over
    return told


class ShiftTests(TestCase):
    def test_all_partings_of_few_doors(self):
        for doors in range(1, 6):
            for row in all_of(doors):
                right = shifts(row)
                self.assertNotIn(row, right)
                for other in all_of(doors):
                    self.check(right.get(other), shifted, row, other)
        for row in random.Random(101).sample(all_of(6), 40):
            right = shifts(row)
            for other in all_of(6):
                self.check(right.get(other), shifted, row, other)

    def test_both_ways_by_the_same_doors(self):
        for doors in range(1, 6):
            for row, other in itertools.product(all_of(doors), repeat=2):
                self.assertEqual(shifted(row, other), shifted(other, row))

    def test_sixty_doors(self):
        row = (0,) * 30 + (1,) * 30
        self.check(tuple(range(10, 30)), shifted, row, (0,) * 10 + (1,) * 50)
        self.check(None, shifted, row, tuple([0, 1] * 30))
        self.check(None, shifted, row, (0,) * 60)
        self.check((29,), shifted, parting=row, other=(0,) * 29 + (1,) * 31)

    def test_facts(self):
        chance = random.Random(102)
        for _ in range(60):
            piece = brute.sound_piece(chance, chance.randrange(1, 7), 6)
            for setting in brute.settings(piece):
                for at in range(len(setting)):
                    other = setting[:at] + (1 - setting[at],) + setting[at + 1:]
                    one, two = left_by(piece, setting), left_by(piece, other)
                    self.assertTrue(one == two or shifted(one, two) is not None)
            lot = lot_of(piece)
            self.check((lot,), shift_classes, lot, piece[0])
            if len(lot) == 2:
                self.assertIsNotNone(shifted(*lot))

    def test_classes(self):
        chance = random.Random(103)
        for doors in range(1, 7):
            self.check((), shift_classes, (), doors)
            by_size = [tuple(row for row in all_of(doors) if max(row) == most) for most in range(doors)]
            self.check(tuple(sorted(by_size)), shift_classes, all_of(doors), doors)
            for _ in range(15):
                lot = brute.random_lot(chance, doors, 8)
                edges = [(row, other) for row in lot for other in shifts(row) if other in lot]
                parts = brute.components(list(lot), edges)
                self.check(tuple(sorted(tuple(sorted(part)) for part in parts)), shift_classes, lot, doors)
        self.check((((0, 0, 1, 1),), ((0, 1, 1, 0),)), shift_classes, lot=((0, 0, 1, 1), (0, 1, 1, 0)), number=4)

    def one_piece(self, row, other):
        piece = shift_piece(row, other)
        if shifted(row, other) is None:
            self.assertIsNone(piece)
        else:
            self.plain(piece)
            self.assertTrue(is_piece(piece))
            self.assertEqual(lot_of(piece), tuple(sorted((row, other))))
            over = shifted(row, other)
            meant = {row[over[0]], row[min(door for door in range(len(row)) if row[door] != row[over[0]]
                                           and other[door] == other[over[0]])]}
            caps = [block for block in range(max(row) + 1) if row.count(block) == 1 and block not in meant]
            self.assertEqual(piece[1].count("either"), 1 + len(caps))

    def test_pieces(self):
        for doors in range(1, 5):
            for row, other in itertools.product(all_of(doors), repeat=2):
                self.one_piece(row, other)
        chance = random.Random(104)
        for doors in (5, 6):
            for row in chance.sample(all_of(doors), 12):
                for other in sorted(shifts(row))[::5]:
                    self.one_piece(row, other)
        self.assertEqual(lot_of(shift_piece(parting=(0, 0, 1), other=(0, 1, 1))), ((0, 0, 1), (0, 1, 1)))

    def test_forty_doors(self):
        row, other = (0,) * 20 + (1,) * 20, (0,) * 10 + (1,) * 30
        piece = shift_piece(row, other)
        self.assertEqual((piece_size(piece), piece[1].count("either")), (2, 1))
        self.assertEqual({left_by(piece, (0,)), left_by(piece, (1,))}, {row, other})
        row = tuple(range(39)) + (0,)
        other = tuple(range(39)) + (7,)
        piece = shift_piece(row, other)
        self.assertEqual(piece[1].count("either"), 38)
        self.assertEqual({left_by(piece, (kept,) + (0,) * 37) for kept in (0, 1)}, {row, other})
        self.refused(TooGreat, {"most": 40}, shift_piece, (0,) * 41, (0,) * 41)
        self.refused(TooGreat, {"most": 40}, shift_piece, (0,) * 40 + (1,), (0,) * 39 + (1, 1))

    def test_refused(self):
        for call in (shifted, shift_piece):
            for value in [*wrong_kinds(), 0, ()]:
                self.refused(BadParting, {"place": None}, call, value, None)
                self.refused(BadParting, {"place": None}, call, (0, 0), value)
            self.refused(BadParting, {"place": 1}, call, (0, 2), (0, 2, 3))
            self.refused(BadParting, {"place": 2}, call, (0, 0), (0, 0, True))
            self.refused(BadNumber, {"value": 3}, call, (0, 0), (0, 0, 1))
            self.refused(BadNumber, {"value": 60}, call, (0,) * 41, (0,) * 60)
        self.refused(BadNumber, {"value": 7}, shift_classes, None, 7)
        self.refused(BadLot, {"word": "tuple"}, shift_classes, None, 6)
        self.refused(BadLot, {"word": "order"}, shift_classes, ((0, 1), (0, 1)), 2)
        self.refused(BadLot, {"word": "parting"}, shift_classes, ((0, 1), (0, 1, 0)), 2)
