"""Points 11 and 23: meeting in a tree, in a wood, and rings."""

import itertools
import random

from fittingdoors.meeting import is_ring, meet_in_tree, meet_in_wood, ring
from tests import brute
from tests.brute import GREAT, TestCase, wrong_kinds

FINEST = tuple(range(60))
COARSEST = (0,) * 60
CHAIN = tuple(door // 2 for door in range(60))
SHIFTED = tuple((door + 1) // 2 for door in range(60))
ROUND = brute.parting([(door + 1) % 60 // 2 for door in range(60)])


class MeetingTests(TestCase):
    def test_against_webs(self):
        for doors in range(1, 6):
            for one in brute.partings(doors):
                for two in brute.partings(doors):
                    self.check(brute.in_tree(one, two), meet_in_tree, one, two)
                    self.check(brute.in_wood(one, two), meet_in_wood, one, two)

    def test_ring_against_all_tuples(self):
        for doors in range(1, 6):
            for one in brute.partings(doors):
                for two in brute.partings(doors):
                    rings = brute.all_rings(one, two)
                    tops = [max(row) for row in rings]
                    right = [row for row in rings if row[0] == min(tops) and max(row) == row[0]]
                    self.assertEqual(len(right), 1 if rings else 0)
                    self.check(right[0] if right else None, ring, one, two)

    def test_is_ring_against_all_tuples(self):
        for one in brute.partings(4):
            for two in brute.partings(4):
                for many in range(6):
                    for row in itertools.product(range(-1, 5), repeat=many):
                        right = min(row, default=0) >= 0 and max(row, default=0) < 4 and brute.is_ring(one, two, row)
                        self.assertIs(is_ring(one, two, row), right)

    def test_ring_of_six_doors(self):
        chance = random.Random(4)
        for _ in range(60):
            one = brute.parting([chance.randrange(4) for _ in range(6)])
            two = brute.parting([chance.randrange(4) for _ in range(6)])
            rings = brute.all_rings(one, two)
            for row in rings:
                self.check(True, is_ring, one, two, row)
            if not rings:
                self.check(None, ring, one, two)
            else:
                least = min(max(row) for row in rings)
                right = [row for row in rings if row[0] == least == max(row)]
                self.check(right[0], ring, one, two)

    def test_no_block_twice(self):
        # By turns, but the block of doors 0, 1, 4, 5 is met twice.
        one, two = (0, 0, 1, 1, 0, 0, 2, 2), (0, 1, 1, 2, 2, 3, 3, 0)
        self.check(False, is_ring, one, two, (0, 1, 2, 3, 4, 5, 6, 7))
        self.check(False, is_ring, two, one, (1, 2, 3, 4, 5, 6, 7, 0))
        self.check(True, is_ring, one, two, (1, 4, 3, 2))
        self.check(True, is_ring, (0, 0), (0, 0), (1, 0))
        self.check(True, is_ring, parting=(0, 0), other=(0, 0), doors=(0, 1))
        self.check((1, 0), ring, parting=(0, 0), other=(0, 0))

    def test_is_ring_of_any_value(self):
        one = (0, 0, 1, 1)
        two = (0, 1, 1, 0)
        self.check(True, is_ring, one, two, (0, 1, 2, 3))
        self.check(False, is_ring, one, two, (1, 2, 3, 0))
        for value in [*wrong_kinds(), (), 0, GREAT, [0, 1, 2, 3], (0, 1, 2, 3, 0, 1, 2, 3), "0123", b"\x00\x01"]:
            self.check(False, is_ring, one, two, value)
        for value in [*wrong_kinds(), (1,), -3, 5, GREAT]:
            self.check(False, is_ring, one, two, (0, value, 2, 3))
        self.check(False, is_ring, one, two, (False, True, 2, 3))
        deep = 0
        for _ in range(58):
            deep = (deep,)
        self.check(False, is_ring, one, two, (deep, deep))

    def test_sixty_doors(self):
        self.check(True, meet_in_tree, FINEST, COARSEST)
        self.check(True, meet_in_tree, parting=COARSEST, other=FINEST)
        self.check(True, meet_in_tree, CHAIN, SHIFTED)
        self.check(False, meet_in_tree, FINEST, FINEST)
        self.check(False, meet_in_tree, COARSEST, COARSEST)
        self.check(True, meet_in_wood, parting=FINEST, other=FINEST)
        self.check(False, meet_in_wood, CHAIN, ROUND)
        self.check(None, ring, CHAIN, SHIFTED)
        self.check((1, 0), ring, COARSEST, COARSEST)
        told = ring(CHAIN, ROUND)
        self.assertEqual(told, tuple([59, *range(58, -1, -1)]))
        self.check(True, is_ring, CHAIN, ROUND, told)
        self.check(False, is_ring, CHAIN, ROUND, told[::-1][1:] + told[:1])
        self.check(False, is_ring, CHAIN, ROUND, told[:58])
        chance = random.Random(5)
        for _ in range(30):
            one = brute.parting([chance.randrange(30 + chance.randrange(30)) for _ in range(60)])
            two = brute.parting([chance.randrange(30 + chance.randrange(30)) for _ in range(60)])
            self.check(brute.in_tree(one, two), meet_in_tree, one, two)
            self.check(brute.in_wood(one, two), meet_in_wood, one, two)
            told = ring(one, two)
            self.assertIs(told is None, brute.in_wood(one, two))
            if told is not None:
                self.assertTrue(brute.is_ring(one, two, told))
                self.assertEqual(told[0], max(told))
                below = told[0]
                self.assertTrue(brute.in_wood(one[:below], two[:below]))
