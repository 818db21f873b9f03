"""Points 15 and 29: sound or not, lots, and how many settings leave a parting."""

import random

from fittingdoors.errors import BadParting, BadPiece, NotSound, TooGreat
from fittingdoors.lotting import bad_setting, is_sound, lot_of, need_sound, settings_leaving
from tests import brute
from tests.brute import TestCase

EMPTY = (0, (), ())
EITHER = (3, ("either",), (((-1, 0), (0, 0)), ((-1, 1), (0, 1)), ((-1, 2), (0, 2))))


def caps(many, doors=0):
    """So many EITHER knots, left and right on one line; their lows on doors, or one line."""
    lines = [((knot, 0), (knot, 1)) for knot in range(many)]
    lines += [((-1, knot), (knot, 2)) for knot in range(many)]
    return many, ("either",) * many, tuple(lines)


def ladder(many):
    """EITHER knots one above the other: the low of each is the left of the next one."""
    lines = [((-1, 0), (0, 0))] + [((knot, 2), (knot + 1, 0)) for knot in range(many - 1)]
    lines += [((-1, 1 + knot), (knot, 1)) for knot in range(many)] + [((many - 1, 2), (-1, many + 1))]
    return many + 2, ("either",) * many, tuple(lines)


class LottingTests(TestCase):
    def one(self, piece):
        rows = [brute.left(piece, setting) for setting in brute.settings(piece)]
        barred = [setting for setting, row in zip(brute.settings(piece), rows) if row is None]
        self.check(not barred, is_sound, piece)
        self.check(barred[0] if barred else None, bad_setting, piece)
        if barred:
            self.refused(NotSound, {"setting": barred[0]}, need_sound, piece)
        else:
            self.check(piece, need_sound, piece)
        if not 1 <= piece[0] <= 6:
            self.refused(TooGreat, {"most": 6}, lot_of, piece)
            self.refused(TooGreat, {"most": 6}, settings_leaving, piece, (0,))
        else:
            if barred:
                self.refused(NotSound, {"setting": barred[0]}, lot_of, piece)
            else:
                self.check(tuple(sorted(set(rows))), lot_of, piece)
            for row in brute.partings(min(piece[0], 4)):
                self.check(rows.count(row), settings_leaving, piece, row)

    def test_small_pieces(self):
        for doors, knots in ((0, 0), (2, 0), (4, 0), (1, 1), (3, 1), (0, 2), (2, 2)):
            for piece in brute.small_pieces(doors, knots):
                self.one(piece)

    def test_some_pieces(self):
        chance = random.Random(16)
        for _ in range(60):
            sorts = [chance.choice(("both", "either")) for _ in range(chance.choice((2, 4)))]
            self.one(brute.random_piece(chance, chance.choice((0, 2, 4, 6, 8)), sorts))
        for doors in (0, 1, 3, 6):
            for _ in range(8):
                self.one(brute.standing_piece(chance, 8, doors))
                self.one(brute.swapped(chance, brute.standing_piece(chance, 8, doors)))

    def test_names(self):
        self.check(((0, 1, 0), (0, 1, 1)), lot_of, piece=EITHER)
        self.check(True, is_sound, piece=EITHER)
        self.check(None, bad_setting, piece=EITHER)
        self.check(EITHER, need_sound, piece=EITHER)
        self.check(1, settings_leaving, piece=EITHER, parting=(0, 1, 1))

    def test_other_numbers_of_doors(self):
        self.check(0, settings_leaving, EITHER, (0, 1))
        self.check(0, settings_leaving, EITHER, (0, 1, 0, 2))
        self.check(0, settings_leaving, EITHER, tuple(range(60)))
        self.refused(BadParting, {"place": None}, settings_leaving, EITHER, ())
        self.refused(BadParting, {"place": 1}, settings_leaving, EITHER, (0, 2, 1))
        self.refused(TooGreat, {"most": 6}, settings_leaving, caps(7), "x")
        self.refused(TooGreat, {"most": 6}, settings_leaving, EMPTY, ())

    def test_twelve_and_thirteen(self):
        for many in (12, 13, 38):
            for piece in (caps(many), ladder(many)):
                calls = [(is_sound, ()), (bad_setting, ()), (need_sound, ()), (lot_of, ()),
                         (settings_leaving, ("x",))]
                if many == 12:
                    self.check(True, is_sound, piece)
                    self.check(None, bad_setting, piece)
                    self.check(piece, need_sound, piece)
                    self.refused(TooGreat, {"most": 6}, lot_of, piece)
                    self.refused(TooGreat, {"most": 6}, settings_leaving, piece, "x")
                else:
                    for call, rest in calls:
                        self.refused(TooGreat, {"most": 12}, call, piece, *rest)

    def test_order_of_refusals(self):
        bad = (1, ("either",) * 13, ())
        for call, rest in [(is_sound, ()), (bad_setting, ()), (need_sound, ()), (lot_of, ()),
                           (settings_leaving, (None,))]:
            self.refused(BadPiece, {"word": "ends", "place": None}, call, bad, *rest)
        # Not sound, and no door, or too many.
        low = (((0, 2), (1, 2)), ((0, 0), (0, 1)), ((1, 0), (1, 1)))
        self.refused(TooGreat, {"most": 6}, lot_of, (0, ("both", "both"), low))
        doors = tuple(((-1, 2 * at), (-1, 2 * at + 1)) for at in range(20))
        self.refused(TooGreat, {"most": 6}, lot_of, (40, ("both", "both"), (*low, *doors)))

    def test_great_pieces(self):
        chance = random.Random(17)
        # 188 BOTH knots and 12 EITHER knots, 6 doors: the most that lots are told of.
        for doors in (6, 40):
            piece = self.wide(chance, doors)
            self.check(True, is_sound, piece)
            self.check(None, bad_setting, piece)
            if doors == 6:
                rows = lot_of(piece)
                self.assertEqual(sum(settings_leaving(piece, row) for row in rows), 4096)
        piece = (40, ("both",) * 188 + ("either",) * 12, brute.random_piece(chance, 40, ["both"] * 200)[2])
        self.check((0,) * 12, bad_setting, piece)

    def wide(self, chance, doors):
        """A sound piece with 12 EITHER knots, doors in one clump: caps on the ends of a tree of BOTH knots."""
        many = 10 + doors
        lines = [((knot, 2), (knot + 1, 0)) for knot in range(many - 1)]
        free = [(0, 0), (many - 1, 2)] + [(knot, 1) for knot in range(many)]
        chance.shuffle(free)
        lines += [((-1, door), free.pop()) for door in range(doors)]
        sorts = ["both"] * many
        while free:
            lines += [(free.pop(), (len(sorts), 2)), ((len(sorts), 0), (len(sorts), 1))]
            sorts.append("either")
        self.assertEqual(sorts.count("either"), 12)
        return doors, tuple(sorts), tuple(lines)

    def test_least_barred_setting_is_the_last_one(self):
        # Only if all knots keep their right line there is a ring.
        many = 12
        knots = ("either",) * many
        lines = []
        for knot in range(many):
            lines.append(((knot, 2), ((knot + 1) % many, 1)))
            lines.append(((knot, 0), (-1, knot)))
        piece = (many, knots, tuple(lines))
        self.one_least(piece)

    def one_least(self, piece):
        rows = brute.settings(piece)
        barred = [setting for setting in rows if brute.left(piece, setting) is None]
        self.check(barred[0] if barred else None, bad_setting, piece)
        self.assertEqual(barred, [(1,) * 12])
