"""Point 63: pieces in woods."""

import itertools
import random

from fittingdoors.errors import BadLot, BadNumber, BadPiece, BadSetting, NotSound, TooGreat
from fittingdoors.joining import joined
from fittingdoors.lotting import lot_of
from fittingdoors.woods import ringing_setting, wood_closed, wood_left_by, wood_lot, wood_parted, wood_turned
from tests import brute
from tests.brute import GREAT, TestCase, all_of, in_wood, wrong_kinds

THIRTEEN = (1, ("either",) * 13, tuple(((knot, 0), (knot, 1)) for knot in range(13)) + (((12, 2), (-1, 0)),) + tuple(
    ((knot, 2), (knot + 1, 2)) for knot in range(0, 12, 2)))
CAP = (1, ("either",), (((-1, 0), (0, 2)), ((0, 0), (0, 1))))
RING = (2, ("either", "both"), (((-1, 0), (0, 0)), ((0, 1), (1, 0)), ((0, 2), (1, 1)), ((1, 2), (-1, 1))))


def right_left(piece, setting):
    nodes, edges, line_of = brute.setting_web(piece, setting)
    if not brute.is_wood(nodes, edges):
        return None
    parts = brute.components(nodes, edges)
    return brute.parting([[line_of[-1, door] in part for part in parts].index(True) for door in range(piece[0])])


def right_turned(lot, doors):
    return tuple(row for row in all_of(doors) if all(in_wood(row, other) for other in lot))


def some_piece(chance, doors, most=5):
    knots = chance.randrange(most)
    return brute.random_piece(chance, doors, [chance.choice(("both", "either", "either"))
                                              for _ in range(knots + (knots + doors) % 2)])


def ringless(chance, doors, most=5):
    while True:
        piece = some_piece(chance, doors, most)
        if not any(brute.has_ring(piece, setting) for setting in brute.settings(piece)):
            return piece


class LeftTests(TestCase):
    def one(self, piece):
        told = {}
        for setting in brute.settings(piece):
            told[setting] = right_left(piece, setting)
            self.check(told[setting], wood_left_by, piece, setting)
        ringing = [setting for setting in told if told[setting] is None]
        self.check(min(ringing) if ringing else None, ringing_setting, piece)
        if 1 <= piece[0] <= 6:
            if ringing:
                self.refused(NotSound, {"setting": min(ringing)}, wood_lot, piece)
            else:
                self.check(tuple(sorted(set(told.values()))), wood_lot, piece)
        return not ringing

    def test_all_small_pieces(self):
        for doors, knots in ((0, 0), (0, 2), (1, 1), (2, 0), (2, 2), (3, 1)):
            for piece in brute.small_pieces(doors, knots):
                self.one(piece)

    def test_some_pieces(self):
        chance = random.Random(521)
        right = 0
        for _ in range(300):
            right += self.one(some_piece(chance, chance.randrange(9), 8))
        self.assertGreater(right, 40)

    def test_twelve_either_knots(self):
        chance = random.Random(522)
        for at in range(6):
            piece = brute.random_piece(chance, 6, ["either"] * 12 + ["both"] * (2 * at))
            rows = {setting: right_left(piece, setting) for setting in brute.settings(piece)[::97]}
            for setting, row in rows.items():
                self.check(row, wood_left_by, piece, setting)
            least = ringing_setting(piece)
            if least is None:
                lot = wood_lot(piece)
                self.assertTrue(set(rows.values()) <= set(lot))
            else:
                self.assertIsNone(wood_left_by(piece, least))
                self.refused(NotSound, {"setting": least}, wood_lot, piece)
                for setting in brute.settings(piece):
                    if setting < least and setting[-2:] == (0, 1):
                        self.assertIsNotNone(wood_left_by(piece, setting))

    def test_parts_without_doors(self):
        loose = (2, ("either", "either"), (((-1, 0), (-1, 1)), ((0, 0), (1, 0)), ((0, 1), (1, 1)), ((0, 2), (1, 2))))
        self.check((0, 0), wood_left_by, loose, (0, 1))
        self.check(None, wood_left_by, piece=loose, setting=(0, 0))
        self.check((0, 0), ringing_setting, loose)
        crossed = (2, ("either", "either"), (((-1, 0), (-1, 1)), ((0, 0), (0, 1)), ((1, 0), (1, 1)), ((0, 2), (1, 2))))
        self.check(((0, 0),), wood_lot, piece=crossed)
        self.refused(NotSound, {"setting": (0, 0)}, lot_of, crossed)
        self.check((), wood_left_by, (0, (), ()), ())
        self.check(None, ringing_setting, (0, (), ()))
        self.check(((0,),), wood_lot, CAP)

    def test_without_doors(self):
        chance = random.Random(523)
        for _ in range(60):
            piece = some_piece(chance, 0, 7)
            for setting in brute.settings(piece):
                self.assertEqual(wood_left_by(piece, setting), None if brute.has_ring(piece, setting) else ())
            self.refused(TooGreat, {"most": 6}, wood_lot, piece)

    def test_great_pieces(self):
        # Settings of great pieces are told one by one.
        chance = random.Random(524)
        for doors in (38, 40):
            piece = brute.standing_piece(chance, 200, doors)
            setting = tuple(chance.randrange(2) for _ in range(piece[1].count("either")))
            self.check(brute.left(piece, setting), wood_left_by, piece, setting)

    def test_fact_of_sound_pieces(self):
        chance = random.Random(525)
        for _ in range(60):
            piece = brute.sound_piece(chance, chance.randrange(1, 7), 6)
            self.check(None, ringing_setting, piece)
            self.assertEqual(wood_lot(piece), lot_of(piece))

    def test_refused(self):
        for value in [*wrong_kinds(), 0, ()]:
            self.refused(BadPiece, {"word": "form", "place": None}, wood_left_by, value, None)
            for call in (ringing_setting, wood_lot):
                self.refused(BadPiece, {"word": "form", "place": None}, call, value)
        for value in [*wrong_kinds(), 0, (), (2,), (0, 0), (True,), (None,)]:
            self.refused(BadSetting, {}, wood_left_by, CAP, value)
        self.refused(BadSetting, {}, wood_left_by, THIRTEEN, (0,) * 12)
        self.check((0,), wood_left_by, THIRTEEN, (0,) * 13)
        for call in (ringing_setting, wood_lot):
            self.refused(TooGreat, {"most": 12}, call, THIRTEEN)
        for doors in (0, 8):
            piece = (doors, (), tuple(((-1, door), (-1, door + 1)) for door in range(0, doors, 2)))
            self.refused(TooGreat, {"most": 6}, wood_lot, piece)
        ring = (8, RING[1], RING[2] + tuple(((-1, door), (-1, door + 1)) for door in (2, 4, 6)))
        self.refused(TooGreat, {"most": 6}, wood_lot, ring)
        self.refused(NotSound, {"setting": (1,)}, wood_lot, RING)


class TurnedTests(TestCase):
    def one(self, lot, doors):
        right = right_turned(lot, doors)
        self.check(right, wood_turned, lot, doors)
        self.check(right_turned(right, doors), wood_closed, lot, doors)

    def test_all_lots_of_few_doors(self):
        for doors in (1, 2, 3):
            for lot in brute.lots_of(doors):
                self.one(lot, doors)

    def test_some_lots(self):
        chance = random.Random(531)
        for _ in range(100):
            doors = chance.choice((4, 4, 4, 5))
            self.one(brute.random_lot(chance, doors), doors)
        self.one(brute.random_lot(chance, 6), 6)
        self.one((), 4)
        self.one(all_of(4), 4)

    def test_six_doors(self):
        self.check(all_of(6), wood_turned, lot=(), number=6)
        self.check(((0, 1, 2, 3, 4, 5),), wood_turned, ((0,) * 6,), 6)
        self.check(((0, 1, 2, 3, 4, 5),), wood_closed, ((0, 1, 2, 3, 4, 5),), number=6)
        self.check(all_of(6), wood_closed, all_of(6), 6)

    def test_fact_of_joining(self):
        chance = random.Random(532)
        seen = set()
        for _ in range(120):
            doors = chance.randrange(1, 5)
            one, two = ringless(chance, doors), ringless(chance, doors)
            whole = joined(one, two, tuple((door, door) for door in range(doors)))
            right = not any(brute.has_ring(whole, setting) for setting in brute.settings(whole))
            told = all(in_wood(p, q) for p, q in itertools.product(wood_lot(one), wood_lot(two)))
            self.assertEqual(right, told)
            seen.add(right)
        self.assertEqual(len(seen), 2)

    def test_parted(self):
        chance = random.Random(533)
        same = 0
        for _ in range(150):
            doors = chance.randrange(1, 5)
            one, two = ringless(chance, doors, 4), ringless(chance, doors, 4)
            if chance.random() < 0.2:
                two = (one[0], one[1], tuple(reversed(one[2])))
            here = set(right_turned(wood_lot(one), doors))
            there = set(right_turned(wood_lot(two), doors))
            same += here == there
            self.check(min(here ^ there) if here != there else None, wood_parted, one, two)
        self.assertGreater(same, 20)
        self.assertLess(same, 130)

    def test_refused(self):
        for call in (wood_turned, wood_closed):
            for number in [*wrong_kinds(), 0, 7, GREAT]:
                self.refused(BadNumber, {"value": number}, call, None, number)
            for lot in wrong_kinds():
                self.refused(BadLot, {"word": "tuple"}, call, lot, 2)
            self.refused(BadLot, {"word": "parting"}, call, ((0,),), 2)
            self.refused(BadLot, {"word": "order"}, call, ((0, 1), (0, 0)), 2)
        for value in [*wrong_kinds(), 0, ()]:
            self.refused(BadPiece, {"word": "form", "place": None}, wood_parted, value, None)
            self.refused(BadPiece, {"word": "form", "place": None}, wood_parted, CAP, value)
        line = (2, (), (((-1, 0), (-1, 1)),))
        self.refused(TooGreat, {"most": 12}, wood_parted, THIRTEEN, None)
        self.refused(TooGreat, {"most": 12}, wood_parted, CAP, THIRTEEN)
        self.refused(TooGreat, {"most": 6}, wood_parted, (0, (), ()), None)
        self.refused(TooGreat, {"most": 6}, wood_parted, CAP, (0, (), ()))
        self.refused(NotSound, {"setting": (1,)}, wood_parted, RING, None)
        self.refused(NotSound, {"setting": (1,)}, wood_parted, CAP, RING)
        self.refused(BadNumber, {"value": 2}, wood_parted, CAP, line)
        self.refused(BadNumber, {"value": 1}, wood_parted, other=CAP, piece=line)
