"""Point 46, resting on points 16 and 41: pieces that are cut, and their parts."""

import itertools
import random

from fittingdoors.cutting import cut, hanging, is_sound_by_parts
from fittingdoors.errors import BadNumber, BadPiece, TooGreat
from fittingdoors.joining import tied
from fittingdoors.makers import knot_piece, tree_piece
from fittingdoors.melting import stands
from fittingdoors.pieces import plain_piece
from tests import brute
from tests.brute import TestCase, wrong_kinds

EMPTY = (0, (), ())
LINE = (2, (), (((-1, 1), (-1, 0)),))


def right_cut(piece, lines):
    doors, sorts, rows = piece
    told = [row for number, row in enumerate(rows) if number not in lines]
    for number in lines:
        told += [(rows[number][0], (-1, doors)), (rows[number][1], (-1, doors + 1))]
        doors += 2
    return doors, sorts, tuple(sorted(tuple(sorted(row)) for row in told))


def right_parts(piece):
    told = []
    for lines in brute.parts_of(piece):
        ends = sorted(end for line in lines for end in piece[2][line])
        doors = [place for knot, place in ends if knot == -1]
        knots = sorted({knot for knot, _ in ends} - {-1})
        rows = []
        for line in lines:
            row = [(-1, doors.index(place)) if knot == -1 else (knots.index(knot), place)
                   for knot, place in piece[2][line]]
            rows.append(tuple(sorted(row)))
        part = (len(doors), tuple(piece[1][knot] for knot in knots), tuple(sorted(rows)))
        told.append((part, tuple(doors), tuple(knots)))
    return tuple(sorted([part for part in told if part[2]], key=lambda part: part[2])
                 + sorted([part for part in told if not part[2]], key=lambda part: part[1]))


def too_great(piece, lines):
    """Which bound a part of the piece cut breaks, or None."""
    parts = [part for part, _, _ in right_parts(right_cut(piece, lines))]
    if any(part[1].count("either") > 12 for part in parts):
        return 12
    return 6 if any(part[0] > 6 for part in parts) else None


def some_cuts(chance, piece):
    """Some lines, ascending, with which no more than 40 doors come."""
    most = min(len(piece[2]), (40 - piece[0]) // 2)
    return tuple(sorted(chance.sample(range(len(piece[2])), chance.randrange(most + 1))))


class CutTests(TestCase):
    def test_small_pieces(self):
        for doors, knots in ((0, 0), (2, 0), (1, 1), (3, 1), (0, 2)):
            for piece in brute.small_pieces(doors, knots):
                for many in range(len(piece[2]) + 1):
                    for lines in itertools.combinations(range(len(piece[2])), many):
                        self.one(piece, lines)

    def one(self, piece, lines):
        told = right_cut(piece, lines)
        self.check(told, cut, piece, lines)
        # Tied again it is the plain piece.
        ties = tuple((door, door + 1) for door in range(piece[0], told[0], 2))
        self.assertEqual(tied(told, ties), plain_piece(piece))

    def test_some_pieces(self):
        chance = random.Random(181)
        for _ in range(300):
            doors = chance.randrange(8)
            sorts = [chance.choice(("both", "either")) for _ in range(chance.randrange(6) * 2 + doors % 2)]
            piece = brute.random_piece(chance, doors, sorts)
            self.one(piece, some_cuts(chance, piece))

    def test_ends_as_they_stand(self):
        either = knot_piece("either")
        self.check((5, ("either",), (((-1, 0), (0, 0)), ((-1, 1), (-1, 3)), ((-1, 2), (0, 2)), ((-1, 4), (0, 1)))),
                   cut, either, (1,))
        turned = (3, ("either",), (((0, 2), (-1, 2)), ((0, 1), (-1, 1)), ((-1, 0), (0, 0))))
        self.check((5, ("either",), (((-1, 0), (0, 0)), ((-1, 1), (-1, 4)), ((-1, 2), (0, 2)), ((-1, 3), (0, 1)))),
                   cut, piece=turned, lines=(1,))
        self.check((4, (), (((-1, 0), (-1, 3)), ((-1, 1), (-1, 2)))), cut, LINE, (0,))
        self.check(EMPTY, cut, EMPTY, ())
        self.check((2, (), (((-1, 0), (-1, 1)),)), cut, LINE, ())

    def test_forty_doors(self):
        chance = random.Random(182)
        piece = brute.standing_piece(chance, 200)
        lines = tuple(sorted(chance.sample(range(300), 20)))
        self.one(piece, lines)
        self.refused(TooGreat, {"most": 40}, cut, piece, tuple(range(21)))
        self.refused(TooGreat, {"most": 40}, is_sound_by_parts, piece, tuple(range(21)))
        wide = tree_piece((0,) * 39)
        self.refused(TooGreat, {"most": 40}, cut, wide, (7,))
        self.check(plain_piece(wide), cut, wide, ())
        self.one(tree_piece((0,) * 38), (5,))

    def test_refused(self):
        for call in (cut, is_sound_by_parts):
            for piece in [*wrong_kinds(), 0, (), (1, (), ())]:
                word = "ends" if piece == (1, (), ()) else "form"
                self.refused(BadPiece, {"word": word, "place": None}, call, piece, None)
            either = knot_piece("either")
            for lines in [*wrong_kinds(), 0]:
                self.refused(BadNumber, {"value": lines}, call, either, lines)
            for line in [*wrong_kinds(), -1, 3, 0, (1,), 10 ** 999, (), (0, 1)]:
                self.refused(BadNumber, {"value": line}, call, either, (0, line, None))
            self.refused(BadNumber, {"value": 1}, call, either, (1, 1))
            self.refused(BadNumber, {"value": -1}, call, either, (-1, 0))
            self.refused(BadNumber, {"value": 0}, call, either, (1, 0))
            self.refused(BadNumber, {"value": 3}, call, either, (3, 9))
            self.refused(BadNumber, {"value": 0}, call, EMPTY, (0,))
            # A wrong number of a line is told ahead of too many doors.
            self.refused(BadNumber, {"value": None}, call, tree_piece((0,) * 39), (1, 2, None))
        for piece in [*wrong_kinds(), 0, ()]:
            self.refused(BadPiece, {"word": "form", "place": None}, hanging, piece)


class HangingTests(TestCase):
    def test_small_pieces(self):
        for doors, knots in ((0, 0), (2, 0), (4, 0), (6, 0), (1, 1), (3, 1), (0, 2), (2, 2)):
            for piece in brute.small_pieces(doors, knots):
                self.check(right_parts(piece), hanging, piece)

    def test_some_pieces(self):
        chance = random.Random(183)
        for _ in range(200):
            doors = chance.randrange(20)
            sorts = [chance.choice(("both", "either")) for _ in range(chance.randrange(4) * 2 + doors % 2)]
            piece = brute.random_piece(chance, doors, sorts)
            self.check(right_parts(piece), hanging, piece)
            piece = cut(piece, some_cuts(chance, piece))
            self.check(right_parts(piece), hanging, piece)

    def test_order(self):
        # Parts with knots come first, by their knots, then lines from door to door.
        lines = (((-1, 5), (-1, 0)), ((1, 0), (1, 1)), ((1, 2), (-1, 3)), ((0, 0), (0, 1)), ((0, 2), (-1, 4)),
                 ((-1, 2), (-1, 1)))
        cap = ((((-1, 0), (0, 2)), ((0, 0), (0, 1))))
        line = (2, (), (((-1, 0), (-1, 1)),))
        self.check((((1, ("both",), cap), (4,), (0,)), ((1, ("either",), cap), (3,), (1,)), (line, (0, 5), ()),
                    (line, (1, 2), ())), hanging, piece=(6, ("both", "either"), lines))
        self.check((), hanging, EMPTY)
        wide = tree_piece(tuple(range(40)))
        self.assertEqual([part[1:] for part in hanging(wide)], [((door,), (door,)) for door in range(40)])


class SoundTests(TestCase):
    def one(self, piece, lines, told):
        most = too_great(piece, lines)
        if most:
            self.refused(TooGreat, {"most": most}, is_sound_by_parts, piece, lines)
        else:
            self.check(told, is_sound_by_parts, piece, lines)
        return None if most else told

    def test_small_pieces(self):
        for doors, knots in ((0, 0), (2, 0), (1, 1), (3, 1), (0, 2), (2, 2)):
            pieces = brute.small_pieces(doors, knots)
            for piece in pieces if len(pieces) < 200 else random.Random(184).sample(pieces, 200):
                told = all(brute.left(piece, setting) is not None for setting in brute.settings(piece))
                for many in range(len(piece[2]) + 1):
                    for lines in itertools.combinations(range(len(piece[2])), many):
                        self.one(piece, lines, told)

    def test_some_pieces(self):
        chance = random.Random(185)
        seen = []
        for _ in range(400):
            doors = chance.randrange(7)
            piece = brute.standing_piece(chance, doors + 2 + chance.randrange(8), doors)
            gone = chance.sample(range(len(piece[1])), min(len(piece[1]), chance.randrange(3)))
            piece = brute.opened(piece, gone)
            if chance.random() < 0.4 and len(piece[2]) > 1:
                piece = brute.swapped(chance, piece)
            told = all(brute.left(piece, setting) is not None for setting in brute.settings(piece))
            seen.append(self.one(piece, some_cuts(chance, piece), told))
        for word in (True, False, None):
            self.assertGreater(seen.count(word), 20)

    def test_great_pieces(self):
        chance = random.Random(186)
        seen = []
        while min(seen.count(word) for word in (True, False)) < 15:
            piece = brute.standing_piece(chance, chance.randrange(20, 44))
            if chance.random() < 0.5:
                piece = brute.swapped(chance, piece)
            lines = tuple(sorted(chance.sample(range(len(piece[2])), chance.randrange(6, 21))))
            seen.append(self.one(piece, lines, stands(piece)))

    def test_rounds(self):
        # Parts one behind another, cut between each two of them.
        for many in (2, 5, 19):
            knots = ("both", "either") * many
            lines = [((2 * at, 0), (2 * at - 1, 2)) for at in range(1, many)] + [((0, 0), (2 * many - 1, 2))]
            ring = tuple(lines + [line for at in range(many) for line in (((2 * at, 1), (2 * at + 1, 0)),
                                                                          ((2 * at, 2), (2 * at + 1, 1)))])
            self.one((0, knots, ring), tuple(range(many)), False)
            # A door at the first part, and an open end in the place of the round.
            path = tuple([((0, 0), (-1, 0)), ((2 * many - 1, 2), (-1, 1))] + list(ring[:many - 1]) + list(ring[many:]))
            self.assertEqual(self.one((2, knots, path), tuple(range(2, many + 1)), True), True)
            self.assertEqual(self.one((2, knots, path), (), True), None if many > 12 else True)

    def test_thirteen_forks(self):
        # EITHER knots one on another, each with a door of its own, cut between each two of them.
        lines = [((knot, 2), (knot + 1, 0)) for knot in range(12)] + [((0, 0), (-1, 13)), ((12, 2), (-1, 14))]
        lines += [((knot, 1), (-1, knot)) for knot in range(13)]
        forks = (15, ("either",) * 13, tuple(lines))
        self.check(True, is_sound_by_parts, forks, tuple(range(12)))
        self.refused(TooGreat, {"most": 12}, is_sound_by_parts, forks, ())
        # With left and right of the first knot on one line a part without a door comes; or a ring.
        lines[12:14] = [((0, 0), (0, 1)), ((12, 2), (-1, 0))]
        lines[14:] = [((knot, 1), (-1, knot)) for knot in range(1, 13)]
        self.check(False, is_sound_by_parts, (13, ("either",) * 13, tuple(lines)), tuple(range(12)))
        lines[12:14] = [((0, 0), (12, 2)), ((0, 1), (-1, 0))]
        self.check(False, is_sound_by_parts, (13, ("either",) * 13, tuple(lines)), tuple(range(13)))

    def test_parts_without_doors(self):
        # What stands, cut nowhere; beside anything else it is a part without a door.
        two = (0, ("both", "either"), (((0, 0), (1, 0)), ((0, 1), (1, 1)), ((0, 2), (1, 2))))
        pair = (0, ("either",) * 2, (((0, 0), (0, 1)), ((0, 2), (1, 2)), ((1, 0), (1, 1))))
        for piece in (two, pair):
            self.check(stands(piece), is_sound_by_parts, piece, ())
            doors, sorts, lines = piece
            twice = (0, sorts * 2, lines + tuple(tuple((knot + 2, place) for knot, place in line) for line in lines))
            self.check(False, is_sound_by_parts, twice, ())
            beside = (2, sorts, (((-1, 0), (-1, 1)),) + lines)
            self.check(False, is_sound_by_parts, beside, ())
            # Every part has doors, and there is no ring; but there are two webs in the place of one.
            for one, two in itertools.product(range(3), repeat=2):
                self.check(False, is_sound_by_parts, twice, (one, two + 3))
            for many in range(4):
                for cuts in itertools.combinations(range(3), many):
                    self.check(stands(piece), is_sound_by_parts, piece, cuts)
                    self.check(False, is_sound_by_parts, twice, cuts)
                    self.check(False, is_sound_by_parts, beside, tuple(one + 1 for one in cuts))
        self.check(False, is_sound_by_parts, EMPTY, ())
        self.check(True, is_sound_by_parts, LINE, ())
        self.check(True, is_sound_by_parts, piece=LINE, lines=(0,))

    def test_bounds(self):
        def caps(many):
            return (many, ("either",) * many, tuple(line for knot in range(many) for line in
                                                    (((knot, 0), (knot, 1)), ((-1, knot), (knot, 2)))))

        # Each of many parts has few EITHER knots and few doors.
        self.check(True, is_sound_by_parts, caps(40), ())
        chance = random.Random(187)
        while True:
            piece = brute.standing_piece(chance, 24)
            if piece[1].count("either") == 13:
                break
        for lines in ((), (0,), (0, 4)):
            self.one(piece, lines, True)
        self.refused(TooGreat, {"most": 12}, is_sound_by_parts, piece, ())
        self.refused(TooGreat, {"most": 6}, is_sound_by_parts, tree_piece((0,) * 7), ())
        self.check(True, is_sound_by_parts, tree_piece((0,) * 6), ())
        self.check(True, is_sound_by_parts, tree_piece((0,) * 6 + (1,) * 6), ())
        # The EITHER knots of every part are looked at ahead of the doors of any.
        wide = tree_piece((0,) * 7)
        doors, sorts, lines = wide
        moved = tuple(tuple((knot + len(sorts), place) for knot, place in line) for line in piece[2])
        self.refused(TooGreat, {"most": 12}, is_sound_by_parts, (doors, sorts + piece[1], lines + moved), ())
        # A part that is too great is told ahead of one that is not sound.
        ring = ((5, 0), (5, 1)), ((5, 2), (-1, 7))
        self.refused(TooGreat, {"most": 6}, is_sound_by_parts, (8, sorts + ("both",), lines + ring), ())
