"""Points 14 and 28: settings, what they leave, and reasons why they are barred."""

import itertools
import random

from fittingdoors.errors import BadPiece, BadSetting
from fittingdoors.settings import either_knots, is_reason, left_by, need_setting, why_barred
from tests import brute
from tests.brute import GREAT, TestCase, wrong_kinds

EMPTY = (0, (), ())
# Left and right of a BOTH knot on one line.
ROUND = (1, ("both",), (((0, 0), (0, 1)), ((-1, 0), (0, 2))))
EITHER = (3, ("either",), (((-1, 0), (0, 0)), ((-1, 1), (0, 1)), ((-1, 2), (0, 2))))


def right_reason(piece, setting, reason):
    """Whether a value with the shape of a reason is one, by the words of the document."""
    word, told = reason
    nodes, edges, line_of = brute.setting_web(piece, setting)
    line_at = {end: node[1] for end, node in line_of.items()}
    if word == "part":
        if len(piece[2]) == 0:
            return told == ()
        parts = []
        for part in brute.components(nodes, edges):
            lines = tuple(sorted(number for kind, number in part if kind == "line"))
            has_door = any(line_at[-1, door] in lines for door in range(piece[0]))
            if not has_door and (piece[0] > 0 or len(lines) < len(piece[2])):
                parts.append(lines)
        return told in parts
    if not all(isinstance(row, tuple) for row in told):
        return False
    kept = dict(zip([k for k, sort in enumerate(piece[1]) if sort == "either"], setting))
    if not told:
        return False
    for (knot, one), (other, two) in told:
        if knot != other or one == two:
            return False
        if knot in kept and {one, two} != {2, kept[knot]}:
            return False
    firsts = [line_at[one] for one, _ in told]
    seconds = [line_at[two] for _, two in told]
    if len({one[0] for one, _ in told}) < len(told) or len(set(firsts)) < len(firsts):
        return False
    return all(seconds[at] == firsts[(at + 1) % len(told)] for at in range(len(told)))


def changed(chance, reason):
    """A value like this reason."""
    word, told = reason
    rows = list(told)
    way = chance.randrange(6)
    if way == 0:
        return ("part" if word == "ring" else "ring"), told
    if way == 1 and rows:
        del rows[chance.randrange(len(rows))]
    elif way == 2 and rows:
        rows.insert(chance.randrange(len(rows) + 1), chance.choice(rows))
    elif way == 3:
        chance.shuffle(rows)
    elif way == 4 and rows and word == "ring":
        at = chance.randrange(len(rows))
        rows[at] = rows[at][::-1]
    elif rows and word == "ring":
        at = chance.randrange(len(rows))
        (knot, one), (_, two) = rows[at]
        rows[at] = ((knot, one), (knot, (two + 1) % 3))
    elif rows:
        rows.append(rows[-1] + 1)
    return word, tuple(rows)


def small_ones():
    for doors, knots in ((0, 0), (2, 0), (1, 1), (3, 1), (0, 2), (2, 2)):
        yield from brute.small_pieces(doors, knots)


class SettingTests(TestCase):
    def test_either_knots(self):
        self.check((), either_knots, EMPTY)
        self.check((0,), either_knots, piece=EITHER)
        chance = random.Random(12)
        sorts = [chance.choice(("both", "either")) for _ in range(200)]
        piece = brute.random_piece(chance, 40, sorts)
        self.check(tuple(k for k in range(200) if sorts[k] == "either"), either_knots, piece)

    def test_need_setting(self):
        self.check((1,), need_setting, EITHER, (1,))
        self.check((0,), need_setting, piece=EITHER, setting=(0,))
        self.check((), need_setting, ROUND, ())
        values = [*wrong_kinds(), 0, (), (0, 0), (2,), (-1,), (True,), (False,), ("0",), (None,), ((0,),), (GREAT,),
                  [0], (b"",)]
        for call, rest in ((need_setting, ()), (left_by, ()), (why_barred, ()), (is_reason, (None,))):
            for value in values:
                self.refused(BadSetting, {}, call, EITHER, value, *rest)
            for value in [*wrong_kinds(), 0, (0,)]:
                self.refused(BadSetting, {}, call, ROUND, value, *rest)

    def test_every_setting_of_small_pieces(self):
        for piece in small_ones():
            for setting in brute.settings(piece):
                self.one(piece, setting)

    def test_settings_of_some_pieces(self):
        chance = random.Random(13)
        for _ in range(300):
            sorts = [chance.choice(("both", "either", "either")) for _ in range(chance.choice((2, 4, 6)))]
            piece = brute.random_piece(chance, chance.choice((0, 2, 4, 6)), sorts)
            for setting in brute.settings(piece)[::3]:
                self.one(piece, setting)

    def one(self, piece, setting):
        row = brute.left(piece, setting)
        self.check(row, left_by, piece, setting)
        reason = why_barred(piece, setting)
        self.plain(reason)
        self.assertIs(reason is None, row is not None)
        if reason is not None:
            self.assertIn(reason[0], ("ring", "part"))
            self.assertTrue(right_reason(piece, setting, reason))
            self.check(True, is_reason, piece, setting, reason)
        self.check(False, is_reason, piece, setting, None)

    def test_is_reason_of_all_short_values(self):
        for piece in [*brute.small_pieces(1, 1), *brute.small_pieces(0, 2)[::7], *brute.small_pieces(2, 2)[::31]]:
            places = [(knot, place) for knot in range(len(piece[1])) for place in range(3)]
            pairs = list(itertools.product(places, repeat=2))
            values = [("ring", row) for many in range(3) for row in itertools.product(pairs, repeat=many)]
            lines = range(len(piece[2]))
            values += [("part", row) for many in range(4) for row in itertools.product(lines, repeat=many)]
            if len(piece[1]) == 2:
                values = values[::11]
            for setting in brute.settings(piece):
                for value in values:
                    self.assertIs(is_reason(piece, setting, value), right_reason(piece, setting, value))

    def test_is_reason_of_changed_ones(self):
        chance = random.Random(14)
        for _ in range(1500):
            sorts = [chance.choice(("both", "both", "either")) for _ in range(chance.choice((4, 6)))]
            piece = brute.random_piece(chance, chance.choice((0, 2)), sorts)
            setting = chance.choice(brute.settings(piece))
            reason = why_barred(piece, setting)
            if reason is not None:
                value = changed(chance, reason)
                self.assertIs(is_reason(piece, setting, value), right_reason(piece, setting, value))

    def test_rings(self):
        self.check(None, left_by, ROUND, ())
        self.check(True, is_reason, ROUND, (), ("ring", (((0, 0), (0, 1)),)))
        self.check(True, is_reason, ROUND, (), ("ring", (((0, 1), (0, 0)),)))
        self.check(False, is_reason, ROUND, (), ("ring", (((0, 0), (0, 2)),)))
        self.check(False, is_reason, ROUND, (), ("ring", ()))
        self.check(False, is_reason, ROUND, (), ("ring", (((0, 0), (0, 1)), ((0, 1), (0, 0)))))
        # An EITHER knot with its low and left end on one line.
        piece = (1, ("either",), (((0, 0), (0, 2)), ((-1, 0), (0, 1))))
        self.check(None, left_by, piece, (0,))
        self.check((0,), left_by, piece, (1,))
        self.check(None, why_barred, piece, (1,))
        self.check(True, is_reason, piece, (0,), ("ring", (((0, 2), (0, 0)),)))
        self.check(False, is_reason, piece, (1,), ("ring", (((0, 2), (0, 0)),)))
        # The ring leaves a part without a door, too.
        self.check(True, is_reason, piece, (0,), ("part", (0,)))
        self.check(False, is_reason, piece, (0,), ("part", (1,)))

    def test_without_doors(self):
        self.check(None, left_by, EMPTY, ())
        self.check(("part", ()), why_barred, EMPTY, ())
        self.check(True, is_reason, piece=EMPTY, setting=(), reason=("part", ()))
        self.check(False, is_reason, EMPTY, (), ("ring", ()))
        low = (((0, 2), (1, 2)), ((0, 0), (0, 1)), ((1, 0), (1, 1)))
        caps = (0, ("either", "either"), low)
        for setting in brute.settings(caps):
            self.check((), left_by, caps, setting)
            self.check(None, why_barred, caps, setting)
            self.check(False, is_reason, caps, setting, ("part", (0, 1, 2)))
        loop = (0, ("both", "both"), low)
        self.check(None, left_by, loop, ())
        self.check(False, is_reason, loop, (), ("part", (0, 1, 2)))
        self.check(False, is_reason, EITHER, (0,), ("part", ()))

    def test_part_without_a_door(self):
        piece = (2, ("either",) * 2, (((0, 0), (-1, 0)), ((1, 0), (1, 1)), ((0, 2), (-1, 1)), ((0, 1), (1, 2))))
        self.check(None, left_by, piece, (0, 1))
        self.check(("part", (1, 3)), why_barred, piece, (0, 1))
        self.check(False, is_reason, piece, (0, 1), ("part", (3, 1)))
        self.check(False, is_reason, piece, (0, 1), ("part", (1,)))
        self.check(False, is_reason, piece, (0, 1), ("part", (0, 2)))
        self.check(False, is_reason, piece, (0, 1), ("part", (1, 3, 3)))
        self.check((0, 1), left_by, piece, (1, 0))

    def test_any_value_as_reason(self):
        piece, setting = ROUND, ()
        deep = 0
        for _ in range(58):
            deep = (deep,)
        good = ((0, 0), (0, 1))
        for value in [*wrong_kinds(), 0, (), ("ring",), ("ring", (good,), 0), ["ring", (good,)], (("ring",), (good,)),
                      ("rings", (good,)), ("part", (good,)), ("ring", good), deep, ("ring", deep), ("part", deep)]:
            self.check(False, is_reason, piece, setting, value)
        for value in [*wrong_kinds(), 0, GREAT, "ring", [good], list(good)]:
            for word in ("ring", "part", value):
                self.check(False, is_reason, piece, setting, (word, value))
        caps = (1, ("either",) * 3, (((0, 0), (0, 1)), ((0, 2), (1, 2)), ((1, 0), (1, 1)), ((2, 0), (2, 1)),
                                     ((2, 2), (-1, 0))))
        self.check(True, is_reason, caps, (0, 0, 0), ("part", (0, 1, 2)))
        self.check(False, is_reason, caps, (0, 0, 0), ("part", [0, 1, 2]))
        for value in [*wrong_kinds(), 0, (), (1,), (0, 0), ((0, 0),), [(0, 0), (0, 1)], ((0, 0), (0, 1), (0, 2)),
                      ((0, 0), (0, True)), ((False, 0), (0, 1)), ((0, 0), (1, 1)), ((0, 0), (0, 3)), ((-1, 0), (-1, 0)),
                      ((-1, 0), (0, 2)), ((0, 0), (GREAT, 1)), ((0, 0), None), (None, (0, 0))]:
            self.check(False, is_reason, piece, setting, ("ring", (value,)))
            self.check(False, is_reason, piece, setting, ("part", (value,)))
            self.check(False, is_reason, piece, setting, ("ring", (good, value)))
            self.check(False, is_reason, piece, setting, (value, (good,)))

    def test_great_pieces(self):
        chance = random.Random(15)
        for share in (1, 4):
            for _ in range(8):
                sorts = [chance.choice(("both",) + ("either",) * share) for _ in range(200)]
                piece = brute.random_piece(chance, 40, sorts)
                setting = tuple(chance.randrange(2) for _ in range(sorts.count("either")))
                self.one(piece, setting)
        for knots in (198, 200):
            piece = brute.standing_piece(chance, knots)
            setting = tuple(chance.randrange(2) for _ in range(piece[1].count("either")))
            self.check((), left_by, piece, setting)
            self.check(None, why_barred, piece, setting)
            self.one(brute.swapped(chance, piece), setting)
        self.refused(BadPiece, {"word": "form", "place": None}, left_by, None, ())
