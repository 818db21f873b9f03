"""Points 16, 17 and 31: pieces joined, tied, and whether they fit."""

import itertools
import random

from fittingdoors.errors import BadPiece, BadTies, TooGreat
from fittingdoors.joining import fit, joined, tied
from fittingdoors.makers import knot_piece, tree_piece
from fittingdoors.melting import stands
from fittingdoors.pieces import is_piece, plain_piece
from tests import brute
from tests.brute import GREAT, TestCase, wrong_kinds

EMPTY = (0, (), ())
LINE = (2, (), (((-1, 0), (-1, 1)),))
LOOP = (0, ("both", "both"), (((0, 0), (0, 1)), ((0, 2), (1, 2)), ((1, 0), (1, 1))))


def lines_only(doors):
    """Pieces of lines alone, door 2K to door 2K + 1."""
    return doors, (), tuple(((-1, 2 * at), (-1, 2 * at + 1)) for at in range(doors // 2))


def made(sorts, doors, lines, ties):
    """What comes of tying, told by the pieces of a graph of lines and ties.

    DOORS are the marks of all doors in their order, LINES and TIES pairs of ends or marks.
    """
    ends = [end for line in lines for end in line]
    gone = {end for tie in ties for end in tie}
    left = [door for door in doors if door not in gone]
    names = {door: (-1, number) for number, door in enumerate(left)}
    told = []
    loops = 0
    for part in brute.components(ends, list(lines) + list(ties)):
        out = [names.get(end, end) for end in part if end not in gone]
        if out:
            told.append(tuple(sorted(out)))
        else:
            loops += 1
    knot = len(sorts)
    for _ in range(loops):
        told += [((knot, 0), (knot, 1)), ((knot, 2), (knot + 1, 2)), ((knot + 1, 0), (knot + 1, 1))]
        knot += 2
    return len(left), tuple(sorts) + ("both",) * (2 * loops), tuple(sorted(told))


def joined_by_graph(one, two, ties):
    def mark(end):
        return ("second", end[1]) if end[0] == -1 else (end[0] + len(one[1]), end[1])

    lines = list(one[2]) + [(mark(a), mark(b)) for a, b in two[2]]
    doors = [(-1, door) for door in range(one[0])] + [("second", door) for door in range(two[0])]
    return made(one[1] + two[1], doors, lines, [((-1, a), ("second", b)) for a, b in ties])


def tied_by_graph(piece, ties):
    doors = [(-1, door) for door in range(piece[0])]
    return made(piece[1], doors, list(piece[2]), [((-1, a), (-1, b)) for a, b in ties])


def some_piece(chance, doors=None):
    doors = chance.randrange(7) if doors is None else doors
    sorts = [chance.choice(("both", "either")) for _ in range(chance.randrange(4))]
    if (doors + 3 * len(sorts)) % 2:
        sorts.append("either")
    return brute.random_piece(chance, doors, sorts)


class JoiningTests(TestCase):
    def one(self, one, two, ties):
        right = joined_by_graph(one, two, ties)
        self.check(right, joined, one, two, ties)
        self.assertTrue(is_piece(right))
        self.assertEqual(plain_piece(right), right)

    def test_to_the_byte(self):
        both, either = knot_piece("both"), knot_piece("either")
        self.check((4, ("both", "either"), (((-1, 0), (0, 0)), ((-1, 1), (0, 1)), ((-1, 2), (1, 1)), ((-1, 3), (1, 2)),
                                            ((0, 2), (1, 0)))), joined, both, either, ((2, 0),))
        self.check(LOOP, joined, LINE, LINE, ((0, 0), (1, 1)))
        self.check(LOOP, joined, piece=LINE, other=LINE, ties=((1, 0), (0, 1)))
        self.check(LINE, joined, LINE, LINE, ((0, 1),))
        self.check(LOOP, tied, LINE, ((0, 1),))
        self.check(LOOP, tied, piece=LINE, ties=((1, 0),))
        self.check((1, ("both",), (((-1, 0), (0, 2)), ((0, 0), (0, 1)))), tied, both, ((1, 0),))
        self.check(EMPTY, joined, EMPTY, EMPTY, ())
        self.check(lines_only(4), joined, LINE, LINE, ())
        self.check((2, ("both", "either", "both", "both"),
                    (((-1, 0), (0, 0)), ((-1, 1), (0, 1)), ((0, 2), (1, 2)), ((1, 0), (1, 1)),
                     ((2, 0), (2, 1)), ((2, 2), (3, 2)), ((3, 0), (3, 1)))),
                   tied, (6, ("both", "either"), (((-1, 4), (-1, 2)), ((-1, 0), (0, 0)), ((0, 1), (-1, 1)),
                                                  ((1, 1), (1, 0)), ((0, 2), (-1, 5)), ((1, 2), (-1, 3)))),
                   ((2, 4), (5, 3)))

    def test_joined_against_graphs(self):
        chance = random.Random(23)
        for _ in range(1500):
            one, two = some_piece(chance), some_piece(chance)
            many = chance.randrange(min(one[0], two[0]) + 1)
            ties = tuple(zip(chance.sample(range(one[0]), many), chance.sample(range(two[0]), many)))
            self.one(one, two, ties)

    def test_tied_against_graphs(self):
        chance = random.Random(24)
        for _ in range(1500):
            piece = some_piece(chance)
            doors = chance.sample(range(piece[0]), 2 * chance.randrange(piece[0] // 2 + 1))
            ties = tuple(zip(doors[::2], doors[1::2]))
            self.check(tied_by_graph(piece, ties), tied, piece, ties)

    def test_loops(self):
        lines = lines_only(4)
        for order in itertools.permutations(range(4)):
            self.one(lines, lines, tuple(enumerate(order)))
        for order in itertools.permutations(range(6)):
            ties = tuple(zip(order[::2], order[1::2]))
            self.check(tied_by_graph(lines_only(6), ties), tied, lines_only(6), ties)

    def test_greatest(self):
        chance = random.Random(25)
        for _ in range(3):
            one = brute.random_piece(chance, 40, ["both"] * 100)
            two = brute.random_piece(chance, 40, ["either"] * 100)
            many = chance.randrange(20, 41)
            ties = tuple(zip(chance.sample(range(40), many), chance.sample(range(40), many)))
            self.one(one, two, ties)
        whole = brute.random_piece(chance, 40, ["either"] * 200)
        self.check(tied_by_graph(whole, ()), tied, whole, ())
        lines = lines_only(40)
        self.one(lines, lines, tuple((door, door) for door in range(40)))
        self.assertEqual(len(joined(lines, lines, tuple((door, door) for door in range(40)))[1]), 40)
        self.one(lines_only(20), lines_only(20), ())
        self.one(whole, EMPTY, ())
        self.one(EMPTY, whole, ())

    def test_more_than_forty_doors(self):
        for one, two, ties in ((40, 2, ()), (20, 22, ()), (40, 40, tuple((door, door) for door in range(19)))):
            self.refused(TooGreat, {"most": 40}, joined, lines_only(one), lines_only(two), ties)
        self.one(lines_only(40), lines_only(40), tuple((door, 39 - door) for door in range(20)))
        # Too many doors are told ahead of too many knots.
        chance = random.Random(26)
        one = brute.random_piece(chance, 40, ["both"] * 200)
        self.refused(TooGreat, {"most": 40}, joined, one, knot_piece("both"), ())

    def test_more_than_two_hundred_knots(self):
        chance = random.Random(27)
        whole = brute.random_piece(chance, 0, ["either"] * 200)
        self.refused(TooGreat, {"most": 200}, joined, whole, knot_piece("both"), ())
        self.refused(TooGreat, {"most": 200}, joined, whole, LOOP, ())
        for knots in (197, 198, 199, 200):
            doors = 2 + knots % 2
            piece = brute.random_piece(chance, doors - 2, ["either"] * knots)
            piece = (doors, piece[1], piece[2] + (((-1, doors - 2), (-1, doors - 1)),))
            ties = ((doors - 1, doors - 2),)
            if knots < 199:
                self.check(tied_by_graph(piece, ties), tied, piece, ties)
                self.one(piece, LINE, ((doors - 2, 0), (doors - 1, 1)))
            else:
                self.refused(TooGreat, {"most": 200}, tied, piece, ties)
                self.refused(TooGreat, {"most": 200}, joined, piece, LINE, ((doors - 2, 0), (doors - 1, 1)))
                self.one(piece, LINE, ((doors - 2, 0),))

    def test_wrong_ties(self):
        one, two = knot_piece("both"), LINE
        for value in [*wrong_kinds(), 0, GREAT, [(0, 0)]]:
            self.refused(BadTies, {"place": None}, joined, one, two, value)
            self.refused(BadTies, {"place": None}, tied, one, value)
        things = [*wrong_kinds(), 0, GREAT, (), (1,), (1, 1, 1), [1, 1], "11", (None, 1), (1, None), (True, 1), (1, True),
                  (-1, 1), (1, -1), (3, 1), (GREAT, 1), (1, GREAT), ((1,), 1), (1, (1,)), ("1", 1), (0, 1), (False, 1)]
        for value in [*things, (1, 0), (2, 2), (1, 2)]:
            self.refused(BadTies, {"place": 1}, joined, one, two, ((0, 0), value, "x"))
        for value in [*things, (1, 2), (2, 0), (2, 2), (2, 4)]:
            self.refused(BadTies, {"place": 1}, tied, (4, *lines_only(4)[1:]), ((0, 1), value, "x"))
        self.refused(BadTies, {"place": 0}, tied, one, ((2, 2),))
        self.refused(BadTies, {"place": 0}, tied, one, ((0, 1, 2),))
        self.refused(BadTies, {"place": 0}, joined, one, two, ((0, 2),))
        self.refused(BadTies, {"place": 0}, joined, one, EMPTY, ((0, 0),))
        self.refused(BadTies, {"place": 2}, joined, one, two, ((0, 0), (1, 1), (2, 0)))
        # Wrong ties are told ahead of what would be too great.
        self.refused(BadTies, {"place": 0}, joined, lines_only(40), lines_only(40), ("x",))


class FitTests(TestCase):
    def right(self, one, two):
        """Whether they fit, by all pairs of partings that the settings leave."""
        lots = brute.lot(one), brute.lot(two)
        if None in lots:
            return False
        return all(brute.in_tree(p, q) for p in lots[0] for q in lots[1])

    def test_small_pieces(self):
        chance = random.Random(28)
        for doors, kinds in ((1, (1,)), (2, (0, 2)), (3, (1,)), (4, (0,))):
            pieces = [piece for knots in kinds for piece in brute.small_pieces(doors, knots)]
            pieces += [brute.standing_piece(chance, 4 + doors % 2, doors) for _ in range(10)]
            pieces += [tree_piece(row) for row in brute.partings(doors)]
            pairs = list(itertools.product(pieces, repeat=2))
            for one, two in chance.sample(pairs, min(len(pairs), 4000)):
                self.check(self.right(one, two), fit, one, two)

    def test_fit_is_standing_of_what_comes(self):
        chance = random.Random(29)
        seen = set()
        for _ in range(600):
            doors = chance.randrange(1, 5)
            one = brute.standing_piece(chance, 6, doors)
            two = chance.choice([some_piece(chance, doors), tree_piece(tuple(range(doors))),
                                 tree_piece(chance.choice(brute.partings(doors)))])
            right = stands(joined(one, two, tuple((door, door) for door in range(doors))))
            seen.add(right)
            self.check(right, fit, one, two)
            self.check(right, fit, two, one)
        self.assertEqual(seen, {True, False})

    def test_never(self):
        self.check(False, fit, EMPTY, EMPTY)
        self.check(False, fit, LOOP, LOOP)
        self.check(False, fit, LINE, knot_piece("both"))
        self.check(False, fit, EMPTY, LINE)
        self.check(False, fit, piece=LINE, other=LINE)
        self.check(True, fit, piece=knot_piece("both"), other=tree_piece((0, 1, 2)))
        great = brute.random_piece(random.Random(30), 0, ["both"] * 200)
        self.check(False, fit, great, great)
        self.check(False, fit, great, LINE)
        self.check(False, fit, LINE, great)

    def test_limit_of_knots(self):
        chance = random.Random(31)
        # Loops are not counted: both have 200 knots together and two lines close.
        piece = brute.random_piece(chance, 0, ["either"] * 100)
        piece = (2, piece[1], piece[2] + (((-1, 0), (-1, 1)),))
        self.check(False, fit, piece, piece)
        for one, two in ((100, 102), (200, 2), (2, 200), (200, 200)):
            one = brute.random_piece(chance, 2, ["both"] * one)
            two = brute.random_piece(chance, 2, ["both"] * two)
            self.refused(TooGreat, {"most": 200}, fit, one, two)
        self.check(False, fit, brute.random_piece(chance, 2, ["both"] * 200), LINE)
        one, two = brute.random_piece(chance, 4, ["both"] * 150), brute.random_piece(chance, 2, ["both"] * 150)
        self.check(False, fit, one, two)

    def test_great_pieces(self):
        chance = random.Random(32)
        for doors in (1, 20, 40):
            one = brute.standing_piece(chance, 158, doors)
            self.check(True, fit, one, tree_piece(tuple(range(doors))))
            self.check(doors == 1, fit, one, tree_piece((0,) * doors))
            two = brute.swapped(chance, one)
            whole = joined(two, tree_piece(tuple(range(doors))), tuple((door, door) for door in range(doors)))
            self.check(stands(whole), fit, two, tree_piece(tuple(range(doors))))
        # 200 EITHER knots in all, which settings could never be gone through.
        for doors in (2, 40):
            tops = (doors, ("either",) * doors, tuple(((-1, door), (door, 2)) for door in range(doors))
                    + tuple(((door, 0), (door, 1)) for door in range(doors)))
            self.check(True, fit, tops, tree_piece((0,) * doors))

    def test_wrong_pieces(self):
        for call, rest in ((joined, ("x",)), (fit, ())):
            self.refused(BadPiece, {"word": "form", "place": None}, call, "x", (1, (), ()), *rest)
            self.refused(BadPiece, {"word": "ends", "place": None}, call, (1, (), ()), "x", *rest)
            self.refused(BadPiece, {"word": "form", "place": None}, call, LINE, "x", *rest)
            self.refused(BadPiece, {"word": "knots", "place": 0}, call, EMPTY, (1, (1,), ()), *rest)
        self.refused(BadPiece, {"word": "lines", "place": 0}, tied, (1, (), (1,)), "x")
