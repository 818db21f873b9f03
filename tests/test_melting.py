"""Point 30: melting, and what stands."""

import random

from fittingdoors.errors import BadNumber, BadParting, BadPiece
from fittingdoors.makers import tree_piece
from fittingdoors.joining import fit
from fittingdoors.melting import barred_setting, fits_tree, melting, stands
from tests import brute
from tests.brute import GREAT, TestCase, wrong_kinds

EMPTY = (0, (), ())


def simulated(piece, parting):
    """Melting by the words of the document, clumps being sets of lines."""
    line_of = {end: number for number, line in enumerate(piece[2]) for end in line}
    clumps = [{number} for number in range(len(piece[2]))]

    def clump(line):
        return [row for row in clumps if line in row][0]

    def unite(lines):
        for line in lines[1:]:
            one, two = clump(lines[0]), clump(line)
            if one is two:
                return False
            clumps.remove(two)
            one |= two
        return True

    groups = [[line_of[knot, place] for place in range(3)] for knot, sort in enumerate(piece[1]) if sort == "both"]
    groups += [[line_of[-1, door] for door in range(piece[0]) if parting[door] == block]
               for block in range(max(parting, default=-1) + 1)]
    for group in groups:
        if not unite(group):
            return (), "ring"
    order = []
    left = [knot for knot, sort in enumerate(piece[1]) if sort == "either"]
    while True:
        ready = [knot for knot in left if clump(line_of[knot, 0]) is clump(line_of[knot, 1])]
        if not ready:
            break
        if not unite([line_of[ready[0], 0], line_of[ready[0], 2]]):
            return tuple(order), "ring"
        order.append(ready[0])
        left.remove(ready[0])
    if left:
        return tuple(order), "stuck"
    return tuple(order), "one" if len(clumps) == 1 else "parts"


def stands_by_settings(piece):
    return all(brute.left(piece, setting) == () for setting in brute.settings(piece))


class MeltingTests(TestCase):
    def test_small_pieces(self):
        seen = set()
        for doors, knots in ((0, 0), (2, 0), (4, 0), (1, 1), (3, 1), (0, 2), (2, 2)):
            for piece in brute.small_pieces(doors, knots):
                lot = brute.lot(piece)
                for row in brute.partings(doors):
                    right = simulated(piece, row)
                    seen.add(right[1])
                    self.check(right, melting, piece, row)
                    if doors:
                        fits = lot is not None and all(brute.in_tree(row, other) for other in lot)
                        self.check(fits, fits_tree, piece, row)
                        self.assertIs(right[1] == "one", fits)
                        self.check(fits, fit, piece, tree_piece(row))
                    else:
                        self.without_doors(piece, right[1])
        self.assertEqual(seen, {"one", "parts", "ring", "stuck"})

    def without_doors(self, piece, end):
        right = stands_by_settings(piece)
        self.assertIs(end == "one", right)
        self.check(right, stands, piece)
        self.barred(piece, right)

    def barred(self, piece, right):
        setting = barred_setting(piece)
        self.plain(setting)
        self.assertIs(setting is None, right)
        if setting is not None:
            self.assertIn(len(setting), (piece[1].count("either"),))
            self.assertLessEqual(set(setting), {0, 1})
            self.assertIsNone(brute.left(piece, setting))

    def test_some_pieces(self):
        chance = random.Random(18)
        ends = []
        for _ in range(150):
            sorts = ["both"] * chance.choice((1, 2, 3)) + ["either"] * chance.choice((2, 3, 4))
            chance.shuffle(sorts)
            sorts += ["either"] * (len(sorts) % 2)
            self.whole(brute.random_piece(chance, 0, sorts), ends)
        for knots in (4, 6, 8, 10):
            for _ in range(40):
                piece = brute.standing_piece(chance, knots)
                self.whole(piece, ends)
                for times in (1, 2):
                    self.whole(brute.swapped(chance, piece, times), ends)
        for _ in range(20):
            one, two = brute.standing_piece(chance, 4), brute.standing_piece(chance, 4)
            lines = tuple(tuple((knot + 4, place) for knot, place in line) for line in two[2])
            self.whole((0, one[1] + two[1], one[2] + lines), ends)
        self.assertEqual(set(ends), {"one", "parts", "ring", "stuck"})

    def whole(self, piece, ends):
        right = simulated(piece, ())
        ends.append(right[1])
        self.check(right, melting, piece, ())
        self.without_doors(piece, right[1])

    def test_with_doors(self):
        chance = random.Random(19)
        ends = []
        for doors in (1, 2, 3, 4, 5):
            for _ in range(40):
                piece = brute.standing_piece(chance, 6, doors)
                if chance.random() < 0.6:
                    piece = brute.swapped(chance, piece)
                lot = brute.lot(piece)
                for row in chance.sample(brute.partings(doors), min(8, len(brute.partings(doors)))):
                    right = simulated(piece, row)
                    ends.append(right[1])
                    self.check(right, melting, piece, row)
                    fits = lot is not None and all(brute.in_tree(row, other) for other in lot)
                    self.check(fits, fits_tree, piece, row)
                    self.check(fits, fit, piece, tree_piece(row))
        self.assertEqual(set(ends), {"one", "ring", "stuck"} | (set(ends) & {"parts"}))

    def test_words(self):
        self.check(((), "parts"), melting, EMPTY, ())
        self.check(False, stands, EMPTY)
        self.check((), barred_setting, EMPTY)
        low = (((0, 2), (1, 2)), ((0, 0), (0, 1)), ((1, 0), (1, 1)))
        self.check(((), "ring"), melting, (0, ("both", "both"), low), ())
        self.check(((0, 1), "one"), melting, (0, ("either", "either"), low), ())
        self.check(True, stands, piece=(0, ("either", "either"), low))
        self.check(None, barred_setting, piece=(0, ("either", "either"), low))
        stuck = (0, ("either", "either"), (((0, 0), (1, 0)), ((0, 1), (1, 1)), ((0, 2), (1, 2))))
        self.check(((), "stuck"), melting, stuck, ())
        # The knot by which the ring comes is not in the order.
        ring = (0, ("either", "either", "either", "either"),
                (((0, 0), (0, 1)), ((0, 2), (1, 0)), ((1, 1), (2, 0)), ((2, 1), (2, 2)), ((1, 2), (3, 2)),
                 ((3, 0), (3, 1))))
        self.check(simulated(ring, ()), melting, ring, ())
        knot = (1, ("either",), (((0, 0), (0, 1)), ((-1, 0), (0, 2))))
        self.check(((0,), "one"), melting, piece=knot, parting=(0,))
        self.check(True, fits_tree, piece=knot, parting=(0,))
        self.check(((), "ring"), melting, (2, (), (((-1, 0), (-1, 1)),)), (0, 0))
        self.check(((), "one"), melting, (2, (), (((-1, 0), (-1, 1)),)), (0, 1))
        self.check(((), "parts"), melting, (4, (), (((-1, 0), (-1, 1)), ((-1, 2), (-1, 3)))), (0, 1, 2, 3))
        self.check(((), "one"), melting, (4, (), (((-1, 0), (-1, 1)), ((-1, 2), (-1, 3)))), (0, 1, 0, 2))

    def test_least_number_first(self):
        # Both can melt at once; the one that comes to melt later has the least number.
        lines = (((1, 0), (1, 1)), ((1, 2), (0, 0)), ((0, 1), (2, 2)), ((2, 0), (3, 0)), ((2, 1), (3, 1)),
                 ((3, 2), (4, 2)), ((4, 0), (4, 1)), ((0, 2), (5, 2)), ((5, 0), (5, 1)))
        piece = (0, ("either", "either", "both", "either", "either", "either"), lines)
        self.check(simulated(piece, ()), melting, piece, ())
        chance = random.Random(20)
        for _ in range(30):
            piece = brute.standing_piece(chance, 30)
            self.check(simulated(piece, ()), melting, piece, ())

    def test_wrong_partings(self):
        line = (2, (), (((-1, 0), (-1, 1)),))
        for value in [*wrong_kinds(), (), 0, GREAT, (0,) * 61]:
            self.refused(BadParting, {"place": None}, melting, line, value)
            self.refused(BadParting, {"place": None}, fits_tree, line, value)
            if value != ():
                self.refused(BadParting, {"place": None}, melting, EMPTY, value)
                self.refused(BadParting, {"place": None}, fits_tree, EMPTY, value)
        for value in ((1,), ("x", 0), (True, 0, 0)):
            for piece in (line, EMPTY):
                self.refused(BadParting, {"place": 0}, melting, piece, value)
                self.refused(BadParting, {"place": 0}, fits_tree, piece, value)
        for doors in (1, 3, 60):
            self.refused(BadNumber, {"value": doors}, melting, line, (0,) * doors)
            self.refused(BadNumber, {"value": doors}, fits_tree, line, (0,) * doors)
            self.refused(BadNumber, {"value": doors}, melting, EMPTY, (0,) * doors)
            self.refused(BadNumber, {"value": doors}, fits_tree, EMPTY, (0,) * doors)
        knot = (1, ("either",), (((0, 0), (0, 1)), ((-1, 0), (0, 2))))
        self.refused(BadParting, {"place": None}, melting, knot, ())
        # () is no parting, so there is no tree piece of it.
        self.refused(BadParting, {"place": None}, fits_tree, EMPTY, ())

    def test_pieces_with_doors(self):
        for piece in (tree_piece((0,)), tree_piece((0, 1, 0)), tree_piece((0,) * 40)):
            self.refused(BadPiece, {"word": "doors", "place": None}, stands, piece)
            self.refused(BadPiece, {"word": "doors", "place": None}, barred_setting, piece)
        self.refused(BadPiece, {"word": "ends", "place": None}, stands, (1, (), ()))

    def test_great_pieces(self):
        chance = random.Random(21)
        ends = []
        for _ in range(12):
            piece = brute.standing_piece(chance, 200)
            self.assertEqual((len(piece[1]), len(piece[2])), (200, 300))
            self.check(simulated(piece, ()), melting, piece, ())
            self.check(True, stands, piece)
            self.check(None, barred_setting, piece)
            for times in (1, 1, 2):
                other = brute.swapped(chance, piece, times)
                right = simulated(other, ())
                ends.append(right[1])
                self.check(right, melting, other, ())
                self.check(right[1] == "one", stands, other)
                self.barred(other, right[1] == "one")
        self.assertIn("stuck", ends)
        self.assertIn("ring", ends)

    def test_great_pieces_with_doors(self):
        chance = random.Random(22)
        for _ in range(6):
            piece = brute.standing_piece(chance, 200, 40)
            self.check(True, fits_tree, piece, tuple(range(40)))
            self.check(simulated(piece, tuple(range(40))), melting, piece, tuple(range(40)))
            row = brute.parting([chance.randrange(39) for _ in range(40)])
            self.check(simulated(piece, row), melting, piece, row)
        piece = (40, ("either",) * 200, brute.random_piece(chance, 40, ["either"] * 200)[2])
        for _ in range(6):
            row = brute.parting([chance.randrange(20) for _ in range(40)])
            self.check(simulated(piece, row), melting, piece, row)

    def test_stuck_for_long(self):
        # One knot is stuck below a long row of knots that would melt one after the other.
        for row in (tuple(range(99)), tuple(range(98, -1, -1))):
            piece = self.long_row(row)
            right = simulated(piece, ())
            self.check(right, melting, piece, ())
            self.barred(piece, right[1] == "one")

    def long_row(self, names):
        """A row of EITHER knots, each with its low on the left of the next one, over BOTH knots."""
        many = len(names)
        lines = [((names[at], 2), (names[at + 1], 0)) for at in range(many - 1)]
        sorts = ["either"] * many
        free = [(names[at], 1) for at in range(many)] + [(names[0], 0)]
        spine = [many + at for at in range(many - 1)]
        sorts += ["both"] * len(spine)
        lines += [((spine[at], 2), (spine[at + 1], 0)) for at in range(len(spine) - 1)]
        slots = [(spine[0], 0)] + [(knot, 1) for knot in spine] + [(spine[-1], 2)]
        lines += list(zip(free, slots))
        lines[-1] = (free[-1], (names[-1], 2)) if len(free) > len(slots) else lines[-1]
        used = {end for line in lines for end in line}
        loose = [end for end in brute.all_ends(0, len(sorts)) if end not in used]
        while len(loose) > 1:
            lines.append((loose.pop(), loose.pop()))
        if loose:
            knot = len(sorts)
            sorts.append("either")
            lines += [(loose.pop(), (knot, 2)), ((knot, 0), (knot, 1))]
        return 0, tuple(sorts), tuple(lines)
