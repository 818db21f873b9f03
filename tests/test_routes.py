"""Point 24: ways, sides and moves."""

import itertools
import random

from fittingdoors.errors import BadDoor
from fittingdoors.routes import moves, sides, way
from tests import brute
from tests.brute import GREAT, TestCase, wrong_kinds

FINEST = tuple(range(60))
COARSEST = (0,) * 60
CHAIN = tuple(door // 2 for door in range(60))
SHIFTED = tuple((door + 1) // 2 for door in range(60))


def ways(one, two, start, goal):
    """All tuples that the document calls ways, by trying all tuples of unlike doors."""
    found = []
    for many in range(1, len(one) + 1):
        for row in itertools.permutations(range(len(one)), many):
            if row[0] == start and row[-1] == goal and brute.is_way(one, two, row):
                found.append(row)
    return found


def all_moves(one, two):
    """All partings that meet the one in a tree and come if one door goes to another block."""
    found = set()
    for door in range(len(two)):
        for block in set(two) - {two[door]}:
            row = brute.parting([*two[:door], block, *two[door + 1:]])
            if brute.in_tree(one, row):
                found.add(row)
    return tuple(sorted(found))


class RouteTests(TestCase):
    def test_small_ones(self):
        for doors in range(1, 6):
            for one in brute.partings(doors):
                for two in brute.partings(doors):
                    if brute.in_tree(one, two):
                        self.small(one, two)
                    else:
                        self.check(None, way, one, two, 0, doors - 1)
                        self.check(None, way, one, two, 0, 0)
                        self.check(None, sides, one, two, doors - 1)
                        self.check(None, moves, one, two)

    def small(self, one, two):
        doors = len(one)
        self.check(all_moves(one, two), moves, one, two)
        for start in range(doors):
            pair = ([], [])
            for goal in range(doors):
                found = ways(one, two, start, goal) if doors < 5 or goal != start else [(start,)]
                self.assertEqual(len(found), 1)
                self.check(found[0], way, one, two, start, goal)
                if goal != start:
                    pair[0 if one[start] == one[found[0][1]] else 1].append(goal)
            self.check((tuple(pair[0]), tuple(pair[1])), sides, one, two, start)

    def test_by_name(self):
        one, two = (0, 0, 1), (0, 1, 1)
        self.check((0, 1, 2), way, parting=one, other=two, door=0, other_door=2)
        self.check(((0,), (2,)), sides, parting=one, other=two, door=1)
        self.check(((0, 1, 0),), moves, parting=one, other=two)

    def test_moves_lead_everywhere(self):
        for one in brute.partings(5):
            meeting = [two for two in brute.partings(5) if brute.in_tree(one, two)]
            seen = {meeting[0]}
            todo = [meeting[0]]
            while todo:
                for row in moves(one, todo.pop()):
                    if row not in seen:
                        seen.add(row)
                        todo.append(row)
            self.assertEqual(seen, set(meeting))

    def test_sixty_doors(self):
        self.check(FINEST, way, CHAIN, SHIFTED, 0, 59)
        self.check(FINEST[::-1], way, CHAIN, SHIFTED, 59, 0)
        self.check((20,), way, CHAIN, SHIFTED, 20, 20)
        self.check((FINEST[21:], FINEST[:20]), sides, CHAIN, SHIFTED, 20)
        self.check((FINEST[:20] + FINEST[21:], ()), sides, COARSEST, FINEST, 20)
        self.check((), moves, FINEST, COARSEST)
        self.check((), moves, COARSEST, FINEST)
        self.check(all_moves(CHAIN, SHIFTED), moves, CHAIN, SHIFTED)
        chance = random.Random(6)
        for _ in range(3):
            two = SHIFTED
            for _ in range(40):
                two = chance.choice(moves(CHAIN, two))
            self.check(all_moves(CHAIN, two), moves, CHAIN, two)
            start, goal = chance.sample(range(60), 2)
            row = way(CHAIN, two, start, goal)
            self.assertTrue(brute.is_way(CHAIN, two, row) and (row[0], row[-1]) == (start, goal))

    def test_wrong_doors(self):
        for one, two in (((0, 0, 1), (0, 1, 1)), ((0, 0, 0), (0, 0, 0))):
            for value in [*wrong_kinds(), -1, 3, 60, GREAT, -GREAT, (0,), ()]:
                self.refused(BadDoor, {"door": value}, way, one, two, value, 0)
                self.refused(BadDoor, {"door": value}, way, one, two, 0, value)
                self.refused(BadDoor, {"door": value}, way, one, two, value, "x")
                self.refused(BadDoor, {"door": value}, sides, one, two, value)
