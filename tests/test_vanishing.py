"""Point 60: what vanishes where low ends meet."""

import random

from fittingdoors.errors import BadNumber, BadPiece, TooGreat
from fittingdoors.pieces import need_piece, piece_size, plain_piece
from fittingdoors.vanishing import clashing_pairs, vanished, vanished_pair, vanishing_pairs, vanishings
from tests import brute
from tests.brute import GREAT, TestCase, wrong_kinds

PAIR = (4, ("either", "both"), (((-1, 0), (0, 0)), ((-1, 1), (0, 1)), ((-1, 2), (1, 0)), ((-1, 3), (1, 1)),
                                ((0, 2), (1, 2))))
LOOP = [((0, 0), (0, 1)), ((0, 2), (1, 2)), ((1, 0), (1, 1))]


def pairs_low(piece):
    """All pairs of knots with their low ends on one line, each with both sorts."""
    told = []
    for (knot, place), (other, other_place) in piece[2]:
        if knot >= 0 and other >= 0 and place == other_place == 2:
            told.append((min(knot, other), max(knot, other)))
    return sorted(told)


def right_pairs(piece):
    told = [pair for pair in pairs_low(piece) if piece[1][pair[0]] != piece[1][pair[1]]]
    return tuple(sorted((one, two) if piece[1][one] == "both" else (two, one) for one, two in told))


def right_clashes(piece):
    return tuple(pair for pair in pairs_low(piece) if piece[1][pair[0]] == piece[1][pair[1]])


def gone(piece, pair):
    """What is left of a piece, told as its knots by their old names, its lines, and how many loops come."""
    knots, lines, loops = piece
    both, either = pair
    lines = [set(line) for line in lines if (both, 2) not in line]
    for place in (0, 1):
        one = [line for line in lines if (both, place) in line][0]
        two = [line for line in lines if (either, place) in line][0]
        rest = (one | two) - {(both, place), (either, place)}
        lines = [line for line in lines if line is not one and line is not two]
        if rest:
            lines.append(rest)
        else:
            loops += 1
    return {knot: knots[knot] for knot in knots if knot not in pair}, lines, loops


def pieced(doors, left):
    """The piece of what is left."""
    knots, lines, loops = left
    names = {-1: -1} | {knot: at for at, knot in enumerate(sorted(knots))}
    rows = [[(names[knot], place) for knot, place in line] for line in lines]
    for loop in range(loops):
        first = len(knots) + 2 * loop
        rows += [[(first + knot, place) for knot, place in line] for line in LOOP]
    sorts = tuple(knots[knot] for knot in sorted(knots)) + ("both",) * (2 * loops)
    return plain_piece((doors, sorts, tuple(tuple(row) for row in rows)))


def low_pairs_left(left):
    knots, lines, _ = left
    told = []
    for line in lines:
        one, two = sorted(line)
        if one[0] >= 0 and one[1] == two[1] == 2 and knots[one[0]] != knots[two[0]]:
            told.append((one[0], two[0]) if knots[one[0]] == "both" else (two[0], one[0]))
    return told


def all_gone(chance, piece):
    """What is left when pairs vanish in some order, and how many do."""
    left = ({knot: sort for knot, sort in enumerate(piece[1])}, piece[2], 0)
    times = 0
    while low_pairs_left(left):
        left = gone(left, chance.choice(low_pairs_left(left)))
        times += 1
    return pieced(piece[0], left), times


def linked_piece(chance, doors, pairs, more=()):
    """A piece with many pairs, all else being on any lines."""
    sorts = ["both", "either"] * pairs + list(more)
    names = chance.sample(range(len(sorts)), len(sorts))
    told = [None] * len(sorts)
    for name, sort in zip(names, sorts):
        told[name] = sort
    lines = []
    ends = [(-1, door) for door in range(doors)] + [(names[at], 2) for at in range(2 * pairs, len(sorts))]
    for pair in range(pairs):
        if chance.random() < 0.6:
            lines.append(((names[2 * pair], 2), (names[2 * pair + 1], 2)))
        else:
            ends += [(names[2 * pair], 2), (names[2 * pair + 1], 2)]
    ends += [(name, place) for name in names for place in (0, 1)]
    chance.shuffle(ends)
    lines += list(zip(ends[::2], ends[1::2]))
    return doors, tuple(told), tuple(lines)


class VanishingTests(TestCase):
    def one(self, chance, piece):
        pairs = right_pairs(piece)
        self.check(pairs, vanishing_pairs, piece)
        self.check(right_clashes(piece), clashing_pairs, piece)
        whole = ({knot: sort for knot, sort in enumerate(piece[1])}, piece[2], 0)
        for pair in pairs:
            self.check(pieced(piece[0], gone(whole, pair)), vanished_pair, piece, pair[0])
        for knot in range(-1, len(piece[1]) + 1):
            if knot not in [pair[0] for pair in pairs]:
                self.refused(BadNumber, {"value": knot}, vanished_pair, piece, knot)
        for _ in range(2):
            right, times = all_gone(chance, piece)
            self.check(right, vanished, piece)
            self.check(times, vanishings, piece)
        return times

    def test_all_small_pieces(self):
        chance = random.Random(501)
        for doors, knots in ((0, 2), (2, 2), (1, 1), (3, 1), (0, 0), (2, 0)):
            for piece in brute.small_pieces(doors, knots):
                self.one(chance, piece)

    def test_some_pieces(self):
        chance = random.Random(502)
        most = 0
        for _ in range(300):
            pairs = chance.randrange(1, 8)
            more = [chance.choice(("both", "either")) for _ in range(chance.randrange(3))]
            doors = chance.randrange(4)
            piece = linked_piece(chance, doors + (doors + len(more)) % 2, pairs, more)
            need_piece(piece)
            most = max(most, self.one(chance, piece))
        self.assertGreater(most, 5)

    def test_chain_of_pairs(self):
        # Each pair brings the next one.
        many = 100
        lines = [((0, 2), (1, 2))]
        for at in range(0, 2 * many - 2, 2):
            lines += [((at, 0), (at + 2, 2)), ((at + 1, 0), (at + 3, 2)), ((at, 1), (at + 1, 1))]
        lines += [((198, 0), (-1, 0)), ((199, 0), (-1, 1)), ((198, 1), (-1, 2)), ((199, 1), (-1, 3))]
        piece = (4, ("both", "either") * many, tuple(lines))
        self.check(((0, 1),), vanishing_pairs, piece)
        # 99 loops come; with 198 knots for them and none else it is a piece.
        self.check(100, vanishings, piece)
        told = vanished(piece)
        self.assertEqual(told[:2], (4, ("both",) * 198))
        self.assertEqual(told[2][:2], (((-1, 0), (-1, 1)), ((-1, 2), (-1, 3))))
        self.assertEqual(told[2][2:5], tuple(LOOP[:1] + LOOP[1:2] + LOOP[2:]))

    def test_loops(self):
        # The lines at left and right close, each with itself or both together.
        low = ((0, 2), (1, 2))
        loop = (0, ("both", "both"), tuple(LOOP))
        two = (0, ("both",) * 4, tuple(LOOP + [tuple((knot + 2, place) for knot, place in line) for line in LOOP]))
        for sorts in (("both", "either"), ("either", "both")):
            both = sorts.index("both")
            straight = (0, sorts, (low, ((0, 0), (1, 0)), ((0, 1), (1, 1))))
            self.check(two, vanished, straight)
            self.check(two, vanished_pair, straight, both)
            self.check(loop, vanished, (0, sorts, (low, ((0, 0), (1, 1)), ((0, 1), (1, 0)))))
            self.check(loop, vanished, piece=(0, sorts, (low, ((0, 0), (0, 1)), ((1, 0), (1, 1)))))
        # What stands for a loop clashes, it is no pair.
        self.check((), vanishing_pairs, loop)
        self.check(((0, 1),), clashing_pairs, loop)

    def test_too_great(self):
        # Two hundred knots, and two loops from one pair.
        lines = [((0, 2), (1, 2)), ((0, 0), (1, 0)), ((0, 1), (1, 1))]
        many = 200
        rest = [(knot, place) for knot in range(2, many) for place in (0, 1, 2)]
        chance = random.Random(503)
        while True:
            chance.shuffle(rest)
            more = list(zip(rest[::2], rest[1::2]))
            piece = (0, ("both", "either") + ("both",) * (many - 2), tuple(lines + more))
            if len(vanishing_pairs(piece)) == 1:
                break
        self.refused(TooGreat, {"most": 200}, vanished, piece)
        self.refused(TooGreat, {"most": 200}, vanishings, piece)
        self.refused(TooGreat, {"most": 200}, vanished_pair, piece, 0)
        self.refused(BadNumber, {"value": 1}, vanished_pair, piece, 1)
        # One loop is not too much, nor are two if one more pair vanishes.
        crossed = [((0, 2), (1, 2)), ((0, 0), (1, 1)), ((0, 1), (1, 0))]
        self.assertEqual(len(vanished((0, piece[1], tuple(crossed + more)))[1]), 200)
        lines += [((2, 2), (3, 2)), ((2, 0), (4, 0)), ((3, 0), (4, 1)), ((2, 1), (5, 0)), ((3, 1), (5, 1)), ((4, 2), (5, 2))]
        rest = [(knot, place) for knot in range(6, many) for place in (0, 1, 2)]
        piece = (0, ("both", "either") * 2 + ("both",) * 196, tuple(lines + list(zip(rest[::2], rest[1::2]))))
        self.check(2, vanishings, piece)
        self.assertEqual(len(vanished(piece)[1]), 200)
        self.assertEqual(len(vanished_pair(piece, 2)[1]), 198)
        self.refused(TooGreat, {"most": 200}, vanished_pair, piece, 0)

    def test_facts(self):
        chance = random.Random(504)
        seen = 0
        while seen < 60:
            doors = chance.randrange(1, 5)
            piece = brute.standing_piece(chance, 5, doors) if chance.random() < 0.5 else brute.sound_piece(chance, doors, 6)
            # A pair is put into some line of a sound piece.
            piece = self.with_pair(chance, piece)
            lot = brute.lot(piece)
            if lot is None or not right_pairs(piece):
                continue
            seen += 1
            told = vanished(piece)
            new = brute.lot(told)
            self.assertIsNotNone(new)
            self.assertEqual(piece_size(told), piece_size(piece))
            self.assertEqual(len(told[1]), len(piece[1]) - 2 * vanishings(piece))
            if piece[0]:
                self.assertLessEqual(set(brute.turned(lot, piece[0])), set(brute.turned(new, piece[0])))

    def with_pair(self, chance, piece):
        """The piece with the ends of two lines on a BOTH knot and an EITHER knot with one low line."""
        doors, sorts, lines = piece
        if len(lines) < 2:
            return piece
        lines = list(lines)
        one, two = chance.sample(range(len(lines)), 2)
        (a, b), (c, d) = lines[one], lines[two]
        both, either = len(sorts), len(sorts) + 1
        if chance.random() < 0.5:
            both, either = either, both
        lines[one], lines[two] = (a, (both, 0)), (c, (both, 1))
        lines += [(b, (either, 0)), (d, (either, 1)), ((both, 2), (either, 2))]
        return doors, sorts + (("both", "either") if both < either else ("either", "both")), tuple(lines)

    def test_example(self):
        self.check(((1, 0),), vanishing_pairs, piece=PAIR)
        self.check((), clashing_pairs, piece=PAIR)
        self.check((4, (), (((-1, 0), (-1, 2)), ((-1, 1), (-1, 3)))), vanished_pair, piece=PAIR, knot=1)
        self.check(1, vanishings, piece=PAIR)
        self.check((), vanishing_pairs, (0, (), ()))
        self.check((0, (), ()), vanished, (0, (), ()))
        clash = (4, ("either", "either"), PAIR[2])
        self.check(((0, 1),), clashing_pairs, clash)
        self.check(plain_piece(clash), vanished, clash)
        self.check(0, vanishings, clash)
        # A door with the number 2 is no low end.
        self.check((), vanishing_pairs, (3, ("both",), (((-1, 2), (0, 2)), ((-1, 0), (0, 0)), ((-1, 1), (0, 1)))))

    def test_refused(self):
        for value in [*wrong_kinds(), 0, (), (0, (), ()) * 2]:
            for call in (vanishing_pairs, clashing_pairs, vanished, vanishings):
                self.refused(BadPiece, {"word": "form", "place": None}, call, value)
            self.refused(BadPiece, {"word": "form", "place": None}, vanished_pair, value, None)
        self.refused(BadPiece, {"word": "ends", "place": None}, vanished, (1, (), ()))
        for knot in [*wrong_kinds(), 0, 2, -1, GREAT, (1,)]:
            self.refused(BadNumber, {"value": knot}, vanished_pair, PAIR, knot)
