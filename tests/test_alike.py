"""Points 19, 31 and 37: which pieces are alike in all surroundings, and which may stand for which."""

import itertools
import random

from fittingdoors.alike import goes_for, parted, turned_piece
from fittingdoors.errors import BadNumber, BadPiece, TooGreat
from fittingdoors.finishing import finished
from fittingdoors.joining import fit
from fittingdoors.makers import knot_piece, tree_piece
from fittingdoors.melting import fits_tree
from tests import brute
from tests.brute import TestCase

RINGED = (1, ("both",), (((-1, 0), (0, 0)), ((0, 1), (0, 2))))


def right_turned(piece):
    lot = brute.lot(piece)
    return () if lot is None else brute.turned(lot, piece[0])


def first_wrong(piece, row):
    """The least setting that is barred or leaves what does not meet ROW in a tree."""
    for setting in brute.settings(piece):
        left = brute.left(piece, setting)
        if left is None or not brute.in_tree(left, row):
            return setting
    return None


class AlikeTests(TestCase):
    def two(self, piece, other):
        first, second = right_turned(piece), right_turned(other)
        apart = sorted(set(first) ^ set(second))
        if not apart:
            self.check(None, parted, piece, other)
        else:
            which = 0 if apart[0] in first else 1
            right = (apart[0], which, first_wrong((other, piece)[which], apart[0]))
            self.check(right, parted, piece, other)
            # The tree piece of this parting fits just the one piece.
            self.assertEqual([fits_tree(piece, apart[0]), fits_tree(other, apart[0])], [which == 0, which == 1])
        lacking = [row for row in second if row not in first]
        right = None if not lacking else (lacking[0], first_wrong(piece, lacking[0]))
        self.check(right, goes_for, piece, other)

    def test_all_small_pieces(self):
        for doors, knots in ((1, 1), (2, 0), (2, 2), (3, 1), (4, 0)):
            rows = brute.small_pieces(doors, knots)
            chance = random.Random(91)
            rows = chance.sample(rows, min(30, len(rows)))
            for piece in rows:
                self.check(right_turned(piece), turned_piece, piece)
            for piece, other in itertools.product(rows[:12], rows[-12:]):
                self.two(piece, other)

    def test_some_pieces(self):
        chance = random.Random(92)
        for _ in range(120):
            doors = chance.randrange(1, 7)
            piece = brute.sound_piece(chance, doors, 6)
            other = brute.sound_piece(chance, doors, 6)
            if chance.random() < 0.3 and len(other[2]) > 1:
                other = brute.swapped(chance, other)
            self.check(right_turned(piece), turned_piece, piece)
            self.two(piece, other)
            self.two(other, piece)

    def test_facts(self):
        chance = random.Random(93)
        for _ in range(60):
            doors = chance.randrange(1, 5)
            piece = brute.sound_piece(chance, doors, 5)
            other = brute.sound_piece(chance, doors, 5)
            third = brute.sound_piece(chance, doors, 5)
            if parted(piece, other) is None:
                self.assertEqual(fit(piece, third), fit(other, third))
            if goes_for(piece, other) is None and fit(other, third):
                self.assertTrue(fit(piece, third))
            # Something fits each sound piece, so it is alike to none that is not sound.
            row = finished(piece, tuple(range(doors)))
            self.assertTrue(fit(piece, tree_piece(row)))
            self.assertIn(row, turned_piece(piece))
        self.check((), turned_piece, RINGED)
        self.check(((0,), 0, ()), parted, tree_piece((0,)), RINGED)
        self.check(((0,), 1, ()), parted, RINGED, tree_piece((0,)))
        self.check(None, parted, RINGED, RINGED)
        self.check(None, goes_for, tree_piece((0,)), RINGED)
        self.check(((0,), ()), goes_for, RINGED, tree_piece((0,)))

    def test_names(self):
        both, either = knot_piece("both"), knot_piece("either")
        self.check(((0, 0, 1),), turned_piece, piece=either)
        self.check(((0, 0, 1), 1, ()), parted, piece=both, other=either)
        self.check(((0, 0, 1), 0, ()), parted, piece=either, other=both)
        self.check(((0, 1, 2), (0,)), goes_for, piece=either, other=both)
        self.check(None, goes_for, piece=both, other=both)

    def test_twelve_either_knots(self):
        chance = random.Random(94)
        for doors in (1, 4, 6):
            while True:
                piece = brute.standing_piece(chance, 24, doors)
                if piece[1].count("either") <= 12:
                    break
            self.check(None, parted, piece, tree_piece((0,) * doors))
            self.check((tuple(range(doors)),) if doors > 1 else ((0,),), turned_piece, piece)

    def test_refused(self):
        good = knot_piece("both")
        great = (13, ("either",) * 13, tuple(line for knot in range(13) for line in
                                             (((knot, 0), (knot, 1)), ((-1, knot), (knot, 2)))))
        wide = tree_piece((0,) * 7)
        empty = (0, (), ())
        for bad, error, fields in ((None, BadPiece, {"word": "form", "place": None}), (great, TooGreat, {"most": 12}),
                                   (wide, TooGreat, {"most": 6}), (empty, TooGreat, {"most": 6})):
            self.refused(error, fields, turned_piece, bad)
            for call in (parted, goes_for):
                self.refused(error, fields, call, good, bad)
                for other in (None, great, wide, good, tree_piece((0, 0))):
                    self.refused(error, fields, call, bad, other)
        for call in (parted, goes_for):
            self.refused(BadNumber, {"value": 2}, call, good, tree_piece((0, 0)))
            self.refused(BadNumber, {"value": 1}, call, good, RINGED)
            self.refused(BadNumber, {"value": 3}, call, RINGED, good)
