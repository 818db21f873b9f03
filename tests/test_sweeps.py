"""Points 14 and 15: all settings gone through knot by knot tell what one setting after the other tells."""

import itertools
import random
import time

from fittingdoors.frames import frame_of
from fittingdoors.lotting import bad_setting, is_sound, lot_of, need_sound, settings_leaving
from fittingdoors.sweeps import Leaving, least_barred, rings_with, short_order
from tests import brute
from tests.brute import TestCase


def caps(many):
    """EITHER knots with left and right on one line, the low on the door of its number."""
    lines = [((knot, 0), (knot, 1)) for knot in range(many)] + [((knot, 2), (-1, knot)) for knot in range(many)]
    return many, ("either",) * many, tuple(lines)


def forks(many):
    """EITHER knots each of which has three doors."""
    return 3 * many, ("either",) * many, tuple(((-1, 3 * knot + place), (knot, place)) for knot in range(many)
                                              for place in range(3))


class SweepTests(TestCase):
    def one(self, piece, told):
        """TOLD has what each setting leaves, None where it is barred."""
        settings = brute.settings(piece)
        barred = [setting for setting, row in zip(settings, told) if row is None]
        self.check(barred[0] if barred else None, least_barred, piece)
        if piece[0]:
            leaving = Leaving(piece)
            self.assertEqual(leaving.bad, barred[0] if barred else None)
            rows = sorted(set(told) - {None})
            self.assertEqual(sorted(leaving.least), rows)
            self.assertEqual(sorted(leaving.counts), rows)
            for row in rows:
                self.assertEqual(leaving.counts[row], told.count(row))
                self.assertEqual(leaving.least[row], settings[told.index(row)])

    def test_small_pieces(self):
        for doors, knots in ((0, 0), (2, 0), (1, 1), (3, 1), (0, 2), (2, 2)):
            for piece in brute.small_pieces(doors, knots):
                self.one(piece, [brute.left(piece, setting) for setting in brute.settings(piece)])

    def test_some_pieces(self):
        chance = random.Random(71)
        for _ in range(150):
            piece = brute.sound_piece(chance, chance.randrange(1, 7), 7)
            if chance.random() < 0.5 and len(piece[2]) > 1:
                piece = brute.swapped(chance, piece)
            self.one(piece, [brute.left(piece, setting) for setting in brute.settings(piece)])

    def test_twelve_either_knots(self):
        chance = random.Random(72)
        pieces = [caps(12), forks(12)]
        for doors in (0, 1, 4, 6, 12):
            for boths in (0, 2, 8):
                sorts = ["either"] * 12 + ["both"] * (boths + doors % 2)
                chance.shuffle(sorts)
                pieces.append(brute.random_piece(chance, doors, sorts))
        while len(pieces) < 40:
            piece = brute.standing_piece(chance, 26, 2)
            if piece[1].count("either") == 13:
                pieces.append(brute.opened(piece, [piece[1].index("either")]))
                pieces.append(brute.swapped(chance, pieces[-1]))
        for piece in pieces:
            self.assertEqual(piece[1].count("either"), 12)
            frame = frame_of(piece)
            self.one(piece, [frame.left_by(setting) for setting in brute.settings(piece)])

    def test_rings_with_blocks(self):
        chance = random.Random(73)
        for _ in range(40):
            piece = brute.sound_piece(chance, chance.randrange(1, 6), 6)
            rows = [brute.left(piece, setting) for setting in brute.settings(piece)]
            for other in brute.partings(piece[0]):
                blocks = [[door for door in range(piece[0]) if other[door] == block] for block in sorted(set(other))]
                right = not all(brute.in_wood(row, other) for row in rows)
                self.check(right, rings_with, frame_of(piece), blocks)
        loop = (0, ("both",) * 2, (((0, 0), (0, 1)), ((0, 2), (1, 2)), ((1, 0), (1, 1))))
        self.check(True, rings_with, frame_of(loop), [])

    def test_short_order(self):
        # Links of a chain come one behind the other; what needs nothing of others comes first.
        self.assertEqual(short_order([(0, 1), (4, 5), (1, 2), (3, 4), (2, 3)]), [0, 2, 4, 3, 1])
        self.assertEqual(short_order([(0, 1), (2, 2), (1, 0)]), [1, 0, 2])
        self.assertEqual(short_order([(0, 1, 2), (2, 3, 4), (4, 3, 0), (1, 5), (5, 6), (7,)]), [5, 4, 3, 0, 1, 2])
        self.assertEqual(short_order([]), [])
        chance = random.Random(75)
        for _ in range(50):
            rows = [[chance.randrange(8) for _ in range(3)] for _ in range(chance.randrange(10))]
            self.assertEqual(sorted(short_order(rows)), list(range(len(rows))))
            self.assertEqual(short_order(rows), self.right_order(rows))

    def right_order(self, rows):
        """Each time the one behind which the fewest spots are begun and stand in some row that is left."""
        order = []
        while len(order) < len(rows):
            costs = []
            for at in range(len(rows)):
                if at not in order:
                    begun = set().union(*[rows[one] for one in [*order, at]])
                    later = set().union(*[rows[one] for one in range(len(rows)) if one not in order and one != at])
                    costs.append((len(begun & later), at))
            order.append(min(costs)[1])
        return order

    def test_few_rows(self):
        # No time is promised; but checks over many pieces with 12 EITHER knots have to come to an end.
        start = time.process_time()
        for piece, call in itertools.product((caps(12), forks(12)), (is_sound, bad_setting, need_sound)):
            for _ in range(20):
                call(piece)
        chance = random.Random(74)
        pieces = []
        while len(pieces) < 20:
            piece = brute.opened(brute.standing_piece(chance, 26), [0, 1])
            if piece[1].count("either") == 12:
                pieces.append(piece)
        for piece in pieces:
            self.check(True, is_sound, piece)
            self.assertEqual(sum(settings_leaving(piece, row) for row in lot_of(piece)), 4096)
        # About half a second; going through one setting after the other takes more than ten.
        self.assertLess(time.process_time() - start, 6)
