"""Points 42 and 43: what fills a hole, and papers that nothing does."""

import itertools
import random

from fittingdoors.errors import BadDoor, BadLot, BadNumber
from fittingdoors.glueing import lots_joined
from fittingdoors.holes import fillers, fills_hole, need_no_filler_paper, no_filler_paper
from fittingdoors.joining import joined
from fittingdoors.lotting import is_sound, lot_of
from fittingdoors.makers import tree_piece
from fittingdoors.melting import stands
from fittingdoors.turning import closed, turned
from tests import brute
from tests.brute import TestCase, all_of, wrong_kinds


def hole_ties(hole):
    return tuple((door, place) for place, door in enumerate(hole))


def right_fillers(lot, doors, hole, goal):
    """What the document says, word by word."""
    aim = brute.closed(goal, doors - len(hole)) if len(hole) < doors else ((),)
    return tuple(row for row in all_of(len(hole))
                 if all(brute.glued(one, row, hole_ties(hole)) in aim for one in lot))


def is_right_paper(lot, doors, hole, goal, paper):
    rows = all_of(len(hole))
    guards = brute.turned(goal, doors - len(hole)) if len(hole) < doors else ()
    if not isinstance(paper, tuple) or len(paper) != len(rows):
        return False
    for row, pair in zip(rows, paper):
        if not isinstance(pair, tuple) or len(pair) != 2 or pair[0] not in lot:
            return False
        told = brute.glued(pair[0], row, hole_ties(hole))
        if told is None and pair[1] is not None:
            return False
        if told is not None and (pair[1] not in guards or brute.in_tree(told, pair[1])):
            return False
    return True


def in_order(lot, order):
    """The lot with its doors in another order."""
    return tuple(sorted(brute.parting([row[door] for door in order]) for row in lot))


class HoleTests(TestCase):
    def one(self, lot, doors, hole, goal):
        right = right_fillers(lot, doors, hole, goal)
        self.check(right, fillers, lot, doors, hole, goal)
        paper = no_filler_paper(lot, doors, hole, goal)
        self.assertEqual(paper is None, len(right) > 0)
        if paper is not None:
            self.plain(paper)
            self.assertTrue(is_right_paper(lot, doors, hole, goal, paper))
            self.check(paper, need_no_filler_paper, lot, doors, hole, goal, paper)
        left = doors - len(hole)
        if left == 0:
            self.assertEqual(right, in_order(turned(lot, doors), hole))
        elif turned(goal, left):
            # What comes when the lot is joined with TURNED of the goal at the doors that are left.
            rest = [door for door in range(doors) if door not in hole]
            ties = tuple((door, place) for place, door in enumerate(rest))
            told = lots_joined(lot, doors, turned(goal, left), left, ties)
            self.assertEqual(right == () or told is not None, True)
            if told is None:
                self.assertEqual(right, ())
            else:
                places = [sorted(hole).index(door) for door in hole]
                self.assertEqual(right, turned(in_order(told, places), len(hole)))
                self.assertEqual(closed(right, len(hole)), right)
        return right

    def test_few_doors(self):
        for doors in (1, 2):
            holes = [hole for many in range(1, doors + 1) for hole in itertools.permutations(range(doors), many)]
            for lot, hole in itertools.product(brute.lots_of(doors), holes):
                for goal in brute.lots_of(doors - len(hole)) if len(hole) < doors else [()]:
                    self.one(lot, doors, hole, goal)
        chance = random.Random(141)
        for _ in range(150):
            hole = tuple(chance.sample(range(3), chance.randrange(1, 4)))
            goal = chance.choice(brute.lots_of(3 - len(hole))) if len(hole) < 3 else ()
            self.one(chance.choice(brute.lots_of(3)), 3, hole, goal)

    def test_some(self):
        chance = random.Random(142)
        filled = 0
        for _ in range(250):
            doors = chance.randrange(4, 7)
            hole = tuple(chance.sample(range(doors), chance.randrange(1, doors + 1)))
            goal = brute.random_lot(chance, doors - len(hole)) if len(hole) < doors else ()
            filled += len(self.one(brute.random_lot(chance, doors), doors, hole, goal)) > 0
        self.assertGreater(filled, 50)
        self.assertLess(filled, 220)

    def test_edges(self):
        for doors in range(1, 7):
            hole = tuple(range(doors))
            for lot in ((), all_of(doors), all_of(doors)[:1]):
                self.check(brute.turned(lot, doors) if lot or doors == 1 else all_of(doors),
                           fillers, lot, doors, hole, ())
            for many in range(1, doors):
                # Where nothing is in the lot all fill the hole; where all are, hardly anything.
                self.check(all_of(many), fillers, (), doors, hole[:many], ())
                for goal in ((), all_of(doors - many)):
                    self.one(all_of(doors), doors, hole[:many], goal)
        self.check((), fillers, ((0, 0, 1),), 3, (0, 1), ((0,),))

    def test_facts_of_pieces(self):
        chance = random.Random(143)
        seen = set()
        for _ in range(150):
            doors = chance.randrange(2, 6)
            piece = brute.sound_piece(chance, doors, 5)
            hole = tuple(chance.sample(range(doors), chance.randrange(1, doors + 1)))
            left = doors - len(hole)
            goal = brute.random_lot(chance, left) if left else ()
            other = brute.sound_piece(chance, len(hole), 4)
            fills = fills_hole(lot_of(piece), doors, hole, goal, lot_of(other))
            whole = joined(piece, other, hole_ties(hole))
            if left:
                right = is_sound(whole) and set(lot_of(whole)) <= set(closed(goal, left))
            else:
                right = stands(whole)
            self.check(right, fills_hole, lot_of(piece), doors, hole, goal, lot_of(other))
            seen.add(right)
            # Some piece does exactly if there are fillers: the tree piece of one.
            rows = fillers(lot_of(piece), doors, hole, goal)
            if rows:
                self.check(True, fills_hole, lot_of(piece), doors, hole, goal, lot_of(tree_piece(rows[0])))
            self.assertTrue(rows or not fills)
        self.assertEqual(seen, {True, False})

    def test_fills_hole(self):
        lot = ((0, 0, 1), (0, 1, 1))
        self.check(True, fills_hole, lot=lot, number=3, hole=(0, 1), goal=((0,),), other=())
        for other in brute.lots_of(2):
            right = set(other) <= set(right_fillers(lot, 3, (0, 2), ((0,),)))
            self.check(right, fills_hole, lot, 3, (0, 2), ((0,),), other)
        self.refused(BadLot, {"word": "parting"}, fills_hole, lot, 3, (0, 2), ((0,),), ((0,),))
        self.refused(BadLot, {"word": "order"}, fills_hole, lot, 3, (0, 2), ((0,),), ((0, 1), (0, 0)))
        for value in [*wrong_kinds(), 0]:
            self.refused(BadLot, {"word": "tuple"}, fills_hole, lot, 3, (0, 2), ((0,),), value)

    def test_papers(self):
        cases = [(((0, 0, 1),), 3, (0, 1), ((0,),)), (((0, 0, 1), (0, 1, 1)), 3, (0, 1), ((0,),)),
                 (((0, 0), (0, 1)), 2, (1, 0), ()), (((0, 0, 1, 1), (0, 1, 1, 0)), 4, (0, 2), ((0, 0),)),
                 (((0, 0, 1), (0, 1, 2)), 3, (2, 1, 0), ())]
        chance = random.Random(144)
        for lot, doors, hole, goal in cases:
            rows = all_of(len(hole))
            things = [*lot, None, *all_of(doors - len(hole) or 1), (0, 1, 2, 3), 0]
            right = no_filler_paper(lot, doors, hole, goal)
            self.assertEqual(right is None, bool(right_fillers(lot, doors, hole, goal)))
            told = 0
            for _ in range(400):
                if right is None or chance.random() < 0.3:
                    paper = tuple((chance.choice(lot), chance.choice(things)) for _ in rows)
                else:
                    paper = list(right)
                    paper[chance.randrange(len(rows))] = (chance.choice(things), chance.choice(things))
                    paper = tuple(paper)
                if is_right_paper(lot, doors, hole, goal, paper):
                    told += 1
                    self.check(paper, need_no_filler_paper, lot, doors, hole, goal, paper)
                else:
                    self.refused(BadLot, {"word": "paper"}, need_no_filler_paper, lot, doors, hole, goal, paper)
            self.assertEqual(told > 0, right is not None)
            if right is not None:
                self.check(right, need_no_filler_paper, lot=lot, number=doors, hole=hole, goal=goal, paper=right)
                for value in [*wrong_kinds(), 0, (), right[:-1], (*right, right[0]), list(right),
                              (list(right[0]), *right[1:]), ((*right[0], None), *right[1:]),
                              (right[0][:1], *right[1:]), ((), *right[1:]),
                              ((list(right[0][0]), right[0][1]), *right[1:]), *[(bad, *right[1:]) for bad in wrong_kinds()],
                              *[((bad, None), *right[1:]) for bad in wrong_kinds()],
                              ((tuple(map(bool, right[0][0])), right[0][1]), *right[1:])]:
                    self.refused(BadLot, {"word": "paper"}, need_no_filler_paper, lot, doors, hole, goal, value)
            else:
                self.refused(BadLot, {"word": "paper"}, need_no_filler_paper, lot, doors, hole, goal, None)

    def test_refused(self):
        for call, rest in ((fillers, ()), (fills_hole, (None,)), (no_filler_paper, ()), (need_no_filler_paper, (None,))):
            for number in (*wrong_kinds(), 0, 7):
                self.refused(BadNumber, {"value": number}, call, None, number, None, None, *rest)
            self.refused(BadLot, {"word": "tuple"}, call, None, 3, None, None, *rest)
            self.refused(BadLot, {"word": "order"}, call, ((0, 1), (0, 0)), 2, None, None, *rest)
            for value in [*wrong_kinds(), 0, ()]:
                self.refused(BadDoor, {"door": value}, call, (), 3, value, None, *rest)
            for value in [*wrong_kinds(), 3, -1, 10 ** 999, 0, (1,)]:
                self.refused(BadDoor, {"door": value}, call, (), 3, (0, value), None, *rest)
            self.refused(BadDoor, {"door": 1}, call, (), 3, (0, 1, 1, 9), None, *rest)
            for value in [*wrong_kinds(), 0]:
                self.refused(BadLot, {"word": "tuple"}, call, (), 3, (0, 2), value, *rest)
                self.refused(BadLot, {"word": "goal"}, call, (), 3, (0, 2, 1), value, *rest)
            self.refused(BadLot, {"word": "goal"}, call, (), 1, (0,), ((0,),), *rest)
            self.refused(BadLot, {"word": "parting"}, call, (), 3, (0, 1), ((0, 0),), *rest)
            self.refused(BadLot, {"word": "order"}, call, (), 3, (0,), ((0, 1), (0, 1)), *rest)
