"""Point 68: benches."""

import copy
import itertools
import random

from fittingdoors.benches import Bench
from fittingdoors.errors import BadDoor, BadNumber, BadPiece, TooGreat
from fittingdoors.joining import fit
from fittingdoors.lotting import lot_of
from fittingdoors.makers import knot_piece, tree_piece
from fittingdoors.melting import stands
from fittingdoors.pieces import plain_piece
from tests import brute
from tests.brute import GREAT, TestCase, wrong_kinds

EMPTY = (0, (), ())
LINE = (2, (), (((-1, 0), (-1, 1)),))
CAP = (1, ("either",), (((-1, 0), (0, 2)), ((0, 0), (0, 1))))
LOOSE = (0, ("both", "both"), (((0, 0), (0, 1)), ((0, 2), (1, 2)), ((1, 0), (1, 1))))
BOTH = knot_piece("both")
EITHER = knot_piece("either")
MANY = (0, ("either",) * 14, tuple(((knot, 0), (knot, 1)) for knot in range(14)) + tuple(
    ((knot, 2), (knot + 1, 2)) for knot in range(0, 14, 2)))
THIRTEEN = (1, ("either",) * 13, tuple(((knot, 0), (knot, 1)) for knot in range(13)) + tuple(
    ((knot, 2), (knot + 1, 2)) for knot in range(0, 12, 2)) + (((12, 2), (-1, 0)),))


def right_whole(deeds):
    """The whole by its words: lines become one at each tie, loops stand behind all knots."""
    places = {}
    knots = []
    lines = []
    doors = []
    for word, number, *rest in deeds:
        if word == "put":
            for line in rest[0][2]:
                lines.append({(("door", number, place) if knot == -1 else ("knot", len(knots) + knot, place))
                              for knot, place in line})
            doors += [(number, door) for door in range(rest[0][0])]
            knots += rest[0][1]
    loops = 0
    for word, number, *rest in deeds:
        if word == "tie":
            one, two = [("door", *tag) for tag in rest]
            first = [line for line in lines if one in line][0]
            second = [line for line in lines if two in line][0]
            lines = [line for line in lines if line is not first and line is not second]
            if first is second:
                loops += 1
            else:
                lines.append((first | second) - {one, two})
            doors = [door for door in doors if door not in rest]
    for at, door in enumerate(doors):
        places["door", *door] = (-1, at)
    told = [tuple(places.get(end, end[1:]) for end in line) for line in lines]
    for loop in range(loops):
        at = len(knots) + 2 * loop
        told += [((at, 0), (at, 1)), ((at, 2), (at + 1, 2)), ((at + 1, 0), (at + 1, 1))]
    return len(doors), tuple(knots) + ("both",) * (2 * loops), tuple(sorted(tuple(sorted(line)) for line in told))


def small_piece(chance):
    doors = chance.randrange(1, 4)
    if chance.random() < 0.8:
        return brute.sound_piece(chance, doors, 3)
    # As a rule not sound: with rings, or with parts without doors.
    return brute.random_piece(chance, doors, [chance.choice(("both", "either")) for _ in range(2 - doors % 2)])


class Model:
    """A bench by its words: a dict of deeds, and all else told from it."""

    def __init__(self):
        self.deeds = {}
        self.next = 1

    def tied(self):
        return [tag for deed in self.deeds.values() if deed[0] == "tie" for tag in deed[1:]]

    def all_doors(self):
        return [(number, door) for number, deed in sorted(self.deeds.items()) if deed[0] == "put"
                for door in range(deed[1][0])]

    def open_doors(self):
        return [tag for tag in self.all_doors() if tag not in self.tied()]

    def told(self):
        return tuple((deed[0], number, *deed[1:]) for number, deed in sorted(self.deeds.items()))

    def do(self, case, chance, bench):
        """One deed on both, or one taken back."""
        doors = self.open_doors()
        kind = chance.random()
        if kind < 0.25 and self.deeds:
            number = chance.choice(sorted(self.deeds))
            bound = [tag for tag in self.all_doors() if tag[0] == number and tag in self.tied()]
            if self.deeds[number][0] == "put" and bound:
                case.refused(BadDoor, {"door": min(bound)}, bench.back, number)
            else:
                case.assertIsNone(bench.back(number))
                del self.deeds[number]
        elif kind < 0.7 and len(doors) > 1:
            one, two = chance.sample(doors, 2)
            case.assertEqual(bench.tie(one, two), self.next)
            self.deeds[self.next] = ("tie", min(one, two), max(one, two))
            self.next += 1
        elif len(self.all_doors()) < 12:
            piece = small_piece(chance)
            case.assertEqual(bench.put(piece), self.next)
            self.deeds[self.next] = ("put", piece)
            self.next += 1


def lot_bound(bench):
    """Whether the pieces one behind the other have more than six doors that are not tied to one another."""
    deeds = bench.deeds()
    puts = [deed for deed in deeds if deed[0] == "put"]
    for at in range(len(puts)):
        numbers = [deed[1] for deed in puts[:at + 1]]
        doors = [(deed[1], door) for deed in puts[:at + 1] for door in range(deed[2][0])]
        inner = [tag for deed in deeds if deed[0] == "tie" for tag in deed[2:]
                 if deed[2][0] in numbers and deed[3][0] in numbers]
        if len(doors) - len(inner) > 6:
            return True
    return any(deed[2][0] > 6 for deed in puts)


class BenchTests(TestCase):
    def same(self, bench, model):
        self.check(model.told(), bench.deeds)
        self.check(tuple(model.open_doors()), bench.doors)
        self.check(model.next, bench.next_number)
        mates = {}
        for deed in model.deeds.values():
            if deed[0] == "tie":
                mates[deed[1]], mates[deed[2]] = deed[2], deed[1]
        for tag in model.all_doors():
            self.check(mates.get(tag), bench.mate, tag)
        self.check(right_whole(bench.deeds()), bench.whole)
        self.lots(bench)

    def lots(self, bench):
        whole = right_whole(bench.deeds())
        if lot_bound(bench):
            self.refused(TooGreat, {"most": 6}, bench.lot)
            self.refused(TooGreat, {"most": 6}, bench.ties_left)
            if bench.doors():
                self.refused(TooGreat, {"most": 6}, bench.finishes)
            return
        if whole[1].count("either") > 9:
            return
        rows = [brute.left(whole, setting) for setting in brute.settings(whole)]
        sound = None not in rows
        self.check(tuple(sorted(set(rows))) if sound and whole[0] else None, bench.lot)
        self.check(sound, bench.finishes)
        tags = bench.doors()
        told = []
        for one, two in itertools.combinations(tags, 2):
            other = bench.twin()
            other.tie(one, two)
            after = right_whole(other.deeds())
            if brute.lot(after) is not None:
                told.append((one, two))
        self.check(tuple(told) if sound else (), bench.ties_left)

    def test_deeds_in_any_order(self):
        chance = random.Random(621)
        for _ in range(60):
            bench, model = Bench(), Model()
            for _ in range(chance.randrange(4, 14)):
                model.do(self, chance, bench)
                if chance.random() < 0.4:
                    self.same(bench, model)
            self.same(bench, model)

    def test_empty_bench(self):
        bench = Bench()
        self.check((), bench.deeds)
        self.check((), bench.doors)
        self.check(1, bench.next_number)
        self.check(EMPTY, bench.whole)
        self.check(None, bench.lot)
        self.check(False, bench.finishes)
        self.check((), bench.ties_left)
        self.check(1, bench.put, EMPTY)
        self.check(EMPTY, bench.whole)
        self.check(None, bench.lot)
        self.check(False, bench.finishes)

    def test_example(self):
        bench = Bench()
        self.check(1, bench.put, BOTH)
        self.check(2, bench.put, piece=EITHER)
        self.check(3, bench.tie, (2, 0), (1, 1))
        self.check(4, bench.tie, tag=(1, 0), other=(2, 1))
        self.check((("put", 1, BOTH), ("put", 2, EITHER), ("tie", 3, (1, 1), (2, 0)), ("tie", 4, (1, 0), (2, 1))), bench.deeds)
        self.check(((0, 0),), bench.lot)
        self.check(True, bench.finishes)
        self.check((), bench.ties_left)
        self.check(None, bench.back, number=4)
        self.check(5, bench.next_number)
        self.check((((1, 0), (2, 1)), ((1, 2), (2, 1))), bench.ties_left)
        self.check((1, 1), bench.mate, (2, 0))
        self.check(None, bench.mate, tag=(2, 1))
        self.check(5, bench.tie, (1, 0), (2, 1))

    def test_pieces_as_they_were_passed(self):
        piece = (2, ("both", "both"), (((1, 2), (0, 0)), ((0, 1), (1, 1)), ((0, 2), (-1, 1)), ((-1, 0), (1, 0))))
        bench = Bench()
        bench.put(piece)
        self.check((("put", 1, piece),), bench.deeds)
        self.check(plain_piece(piece), bench.whole)

    def test_the_whole_hangs_on_what_is_in_force(self):
        chance = random.Random(622)
        for _ in range(40):
            pieces = [small_piece(chance) for _ in range(3)]
            tags = [(number, door) for number in (1, 2, 3) for door in range(pieces[number - 1][0])]
            chance.shuffle(tags)
            ties = list(zip(tags[::2], tags[1::2]))[:chance.randrange(4)]
            wholes = []
            for order in itertools.permutations(ties):
                bench = Bench()
                for piece in pieces:
                    bench.put(piece)
                for one, two in order:
                    bench.tie(two, one) if chance.random() < 0.5 else bench.tie(one, two)
                wholes.append(bench.whole())
            # Deeds done and taken back in between.
            bench = Bench()
            for piece in pieces:
                bench.put(piece)
            extra = bench.put(BOTH)
            for one, two in ties:
                number = bench.tie(one, (extra, 0))
                bench.back(number)
                bench.tie(one, two)
            bench.back(extra)
            wholes.append(bench.whole())
            self.assertEqual(len(set(wholes)), 1)

    def test_own_ties_and_loops(self):
        bench = Bench()
        bench.put(LINE)
        bench.put(LINE)
        bench.tie((1, 0), (1, 1))
        self.check((2, ("both", "both"), (((-1, 0), (-1, 1)), *LOOSE[2])), bench.whole)
        self.check(None, bench.lot)
        self.check(False, bench.finishes)
        self.check((), bench.ties_left)
        bench.tie((2, 1), (2, 0))
        self.assertEqual(bench.whole()[:2], (0, ("both",) * 4))
        self.check(None, bench.lot)
        self.check(False, bench.finishes)
        bench = Bench()
        bench.put(CAP)
        bench.put(CAP)
        self.check((((1, 0), (2, 0)),), bench.ties_left)
        self.check(((0, 1),), bench.lot)
        bench.tie((1, 0), (2, 0))
        self.check(True, bench.finishes)
        self.check(None, bench.lot)
        self.check((), bench.ties_left)

    def test_pieces_without_doors(self):
        for piece, right in ((EMPTY, ((0, 0),)), (LOOSE, None)):
            bench = Bench()
            bench.put(piece)
            bench.put(LINE)
            bench.put(piece)
            self.check(right, bench.lot)
            self.check(right is not None, bench.finishes)
        # Pieces that stand are no better beside an open door, but alone they finish.
        standing = brute.standing_piece(random.Random(623), 4)
        bench = Bench()
        bench.put(standing)
        self.check(True, bench.finishes)
        bench.put(EMPTY)
        self.check(True, bench.finishes)
        self.check(None, bench.lot)
        bench.put(CAP)
        self.check(False, bench.finishes)
        self.check(None, bench.lot)
        self.check((), bench.ties_left)

    def test_parts_without_doors(self):
        # No ring is left, but a part without a door.
        piece = (2, ("either", "either"), (((-1, 0), (-1, 1)), ((0, 0), (0, 1)), ((1, 0), (1, 1)), ((0, 2), (1, 2))))
        bench = Bench()
        bench.put(LINE)
        self.check(((0, 0),), bench.lot)
        bench.put(piece)
        self.check(None, bench.lot)
        self.check(False, bench.finishes)
        bench.tie((1, 0), (2, 0))
        self.check(None, bench.lot)

    def test_six_doors(self):
        bench = Bench()
        bench.put(tree_piece((0, 0, 0, 1, 1, 2)))
        self.check(((0, 0, 0, 1, 1, 2),), bench.lot)
        bench.put(LINE)
        self.refused(TooGreat, {"most": 6}, bench.lot)
        bench.tie((1, 0), (2, 0))
        self.check(((0, 0, 1, 1, 2, 0),), bench.lot)

    def test_many_either_knots(self):
        # More settings than could be tried: the lot is told piece by piece.
        chance = random.Random(624)
        bench = Bench()
        last = bench.put(EITHER)
        for at in range(199):
            number = bench.put(BOTH if at % 2 == 0 else EITHER)
            if at % 2 == 0:
                bench.tie((last, 2), (number, chance.randrange(2)))
            else:
                free = [tag for tag in bench.doors() if tag[0] == last][:2]
                bench.tie(free[0], (number, 0))
                bench.tie(free[1], (number, 1))
            last = number
            if bench.next_number() > 390:
                break
        self.assertIn(bench.finishes(), (True, False))
        self.assertEqual(bench.finishes(), bench.lot() is not None)
        bench = Bench()
        first = bench.put(LINE)
        end = (first, 1)
        for _ in range(66):
            both, either = bench.put(BOTH), bench.put(EITHER)
            bench.tie(end, (both, 2))
            bench.tie((both, 0), (either, 0))
            bench.tie((both, 1), (either, 1))
            end = (either, 2)
        self.check(((0, 0),), bench.lot)
        self.check(True, bench.finishes)
        self.assertEqual(len(bench.whole()[1]), 132)
        self.assertTrue(fit(bench.whole(), tree_piece((0, 1))))

    def test_greatest_number_of_knots(self):
        bench = Bench()
        for _ in range(200):
            bench.put(CAP)
        self.refused(TooGreat, {"most": 200}, bench.put, CAP)
        self.refused(TooGreat, {"most": 200}, bench.put, BOTH)
        self.check(201, bench.put, LINE)
        self.check(201, lambda: bench.next_number() - 1)
        self.refused(TooGreat, {"most": 40}, bench.whole)
        self.refused(TooGreat, {"most": 6}, bench.lot)
        bench.back(7)
        self.check(202, bench.put, CAP)
        self.refused(TooGreat, {"most": 200}, bench.put, CAP)
        # Loops that bring more knots are told by the whole alone.
        bench.tie((201, 0), (201, 1))
        tags = list(bench.doors())
        for one, two in list(zip(tags[::2], tags[1::2])):
            bench.tie(one, two)
        self.check((), bench.doors)
        self.refused(TooGreat, {"most": 200}, bench.whole)
        self.refused(TooGreat, {"most": 200}, bench.finishes)
        bench.back(203)
        bench.back(201)
        self.check(False, bench.finishes)

    def test_greatest_number_of_deeds(self):
        bench = Bench()
        for at in range(199):
            bench.put(EMPTY)
        self.check(200, bench.put, BOTH)
        for _ in range(100):
            number = bench.tie((200, 0), (200, 1))
            bench.back(number)
            number = bench.put(LINE)
            bench.back(number)
        self.check(401, bench.next_number)
        before = bench.deeds()
        self.refused(TooGreat, {"most": 400}, bench.put, LINE)
        self.refused(TooGreat, {"most": 400}, bench.tie, (200, 0), (200, 1))
        self.refused(BadDoor, {"door": (200, 0)}, bench.tie, (200, 0), (200, 0))
        self.refused(BadDoor, {"door": (200, 3)}, bench.tie, (200, 0), (200, 3))
        self.refused(BadPiece, {"word": "form", "place": None}, bench.put, None)
        self.check(before, bench.deeds)
        self.check(401, bench.twin().next_number)
        # Two hundred knots and four hundred deeds: the knots are told first.
        other = Bench()
        for _ in range(100):
            other.put((0, ("both", "both"), LOOSE[2]))
        for _ in range(300):
            other.back(other.put(EMPTY))
        self.refused(TooGreat, {"most": 200}, other.put, BOTH)
        self.refused(TooGreat, {"most": 400}, other.put, EMPTY)

    def test_bounds_of_lots(self):
        bench = Bench()
        bench.put(THIRTEEN)
        for call in (bench.lot, bench.finishes, bench.ties_left):
            self.refused(TooGreat, {"most": 12}, call)
        bench.put(brute.random_piece(random.Random(625), 8, []))
        for call in (bench.lot, bench.finishes, bench.ties_left):
            self.refused(TooGreat, {"most": 12}, call)
        bench.back(1)
        for call in (bench.lot, bench.finishes, bench.ties_left):
            self.refused(TooGreat, {"most": 6}, call)
        # Without open doors the errors of the lot come ahead of None, but it may finish.
        bench = Bench()
        bench.put(MANY)
        self.check(False, bench.finishes)
        self.refused(TooGreat, {"most": 12}, bench.lot)
        self.refused(TooGreat, {"most": 12}, bench.ties_left)
        bench = Bench()
        bench.put(tree_piece((0,) * 8))
        for door in range(0, 8, 2):
            bench.tie((1, door), (1, door + 1))
        self.refused(TooGreat, {"most": 6}, bench.lot)
        self.check(False, bench.finishes)

    def test_doors_one_behind_the_other(self):
        # Six doors are not too many, seven are, though they are tied further on.
        bench = Bench()
        for _ in range(3):
            bench.put(LINE)
        self.assertEqual(bench.lot(), ((0, 0, 1, 1, 2, 2),))
        bench.put(CAP)
        self.refused(TooGreat, {"most": 6}, bench.lot)
        bench.tie((4, 0), (1, 0))
        self.assertEqual(bench.lot(), ((0, 1, 1, 2, 2),))
        bench = Bench()
        bench.put(EITHER)
        bench.put(EITHER)
        bench.put(CAP)
        bench.put(BOTH)
        bench.tie((4, 0), (1, 0))
        bench.tie((4, 1), (2, 0))
        bench.tie((4, 2), (3, 0))
        self.assertEqual(len(bench.doors()), 4)
        self.refused(TooGreat, {"most": 6}, bench.lot)

    def test_twin(self):
        chance = random.Random(626)
        for _ in range(20):
            bench, model = Bench(), Model()
            for _ in range(10):
                model.do(self, chance, bench)
            twin = bench.twin()
            self.assertIs(type(twin), Bench)
            other = copy.deepcopy(model)
            self.assertNotEqual(bench, twin)
            self.assertEqual(bench, bench)
            self.assertFalse(bench == twin)
            self.assertFalse(bench == bench.deeds())
            for _ in range(8):
                model.do(self, chance, bench)
                other.do(self, chance, twin)
            for one, two in ((bench, model), (twin, other)):
                self.check(two.told(), one.deeds)
                self.check(two.next, one.next_number)
                self.check(tuple(two.open_doors()), one.doors)

    def test_what_is_told_is_not_changed(self):
        bench = Bench()
        bench.put(BOTH)
        deeds, doors, whole = bench.deeds(), bench.doors(), bench.whole()
        bench.tie((1, 0), (1, 1))
        self.assertEqual(deeds, (("put", 1, BOTH),))
        self.assertEqual(doors, ((1, 0), (1, 1), (1, 2)))
        self.assertEqual(whole, BOTH)

    def test_fact_of_the_lot(self):
        chance = random.Random(627)
        seen = 0
        while seen < 40:
            bench, model = Bench(), Model()
            for _ in range(9):
                model.do(self, chance, bench)
            if not bench.doors() or lot_bound(bench):
                continue
            seen += 1
            whole = bench.whole()
            if whole[1].count("either") <= 12:
                self.assertEqual(bench.lot(), lot_of(whole) if bench.finishes() else None)
            if bench.finishes():
                guards = brute.turned(bench.lot(), whole[0])
                self.assertTrue(guards)
                self.assertTrue(fit(whole, tree_piece(guards[0])))

    def test_whole_that_stands(self):
        chance = random.Random(628)
        for _ in range(30):
            bench = Bench()
            one = brute.standing_piece(chance, 5, 3)
            bench.put(one)
            bench.put(chance.choice((BOTH, EITHER)))
            for door in range(3):
                bench.tie((1, door), (2, door))
            self.check(stands(bench.whole()), bench.finishes)

    def test_refused(self):
        bench = Bench()
        for value in [*wrong_kinds(), 0, (), [BOTH]]:
            self.refused(BadPiece, {"word": "form", "place": None}, bench.put, value)
        self.refused(BadPiece, {"word": "ends", "place": None}, bench.put, (1, (), ()))
        bench.put(BOTH)
        bench.put(LINE)
        bench.tie((1, 0), (2, 0))
        wrong = [*wrong_kinds(), 0, (), (1,), (1, 2, 0), (True, 1), (1, True), (1, 3), (1, -1), (3, 0), (0, 0), (-1, 0),
                 (GREAT, 0), (1, GREAT), (None, None), ("1", 1), ((1,), 1), [1, 1]]
        for value in wrong:
            self.refused(BadDoor, {"door": value}, bench.mate, value)
        for value in wrong + [(1, 0), (2, 0)]:
            self.refused(BadDoor, {"door": value}, bench.tie, value, None)
            self.refused(BadDoor, {"door": value}, bench.tie, (1, 1), value)
        self.refused(BadDoor, {"door": (1, 1)}, bench.tie, (1, 1), (1, 1))
        for value in [*wrong_kinds(), 0, -1, 4, GREAT, (1,), (1, 0)]:
            self.refused(BadNumber, {"value": value}, bench.back, value)
        self.refused(BadDoor, {"door": (1, 0)}, bench.back, 1)
        self.refused(BadDoor, {"door": (2, 0)}, bench.back, 2)
        bench.tie((2, 1), (1, 2))
        self.refused(BadDoor, {"door": (1, 0)}, bench.back, 1)
        bench.back(3)
        self.refused(BadDoor, {"door": (1, 2)}, bench.back, 1)
        self.refused(BadNumber, {"value": 3}, bench.back, 3)
        self.refused(BadDoor, {"door": (2, 1)}, bench.back, 2)
        bench.back(4)
        bench.back(1)
        self.refused(BadDoor, {"door": (1, 0)}, bench.mate, (1, 0))
        self.check((("put", 2, LINE),), bench.deeds)
