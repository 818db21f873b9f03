"""Points 10, 21 and what is finer (22): partings, selecting, finer."""

import itertools
import random

from fittingdoors.errors import BadDoor, BadNumber, BadParting, TooGreat
from fittingdoors.finer import coarsest_below, finest_above, is_finer
from fittingdoors.partings import all_partings, blocks_of, is_parting, need_parting, parting_of, size_of
from fittingdoors.selecting import beside, parting_of_some
from tests import brute
from tests.brute import GREAT, TestCase, wrong_kinds

BELLS = (1, 1, 2, 5, 15, 52, 203, 877, 4140)
FINEST = tuple(range(60))
COARSEST = (0,) * 60


def bad_partings():
    """Values that are no partings, each with the place that is told."""
    rows = [(value, None) for value in wrong_kinds()]
    rows += [((), None), ((0,) * 61, None), (tuple(range(61)), None), (7, None), (-1, None), (GREAT, None)]
    for value in [*wrong_kinds(), 2, -1, GREAT, -GREAT, (0,), ()]:
        rows.append(((0, value), 1))
        rows.append(((0, 0, 1, value) if value != 2 else (0, 0, 1, 3), 3))
    rows += [((value,), 0) for value in [*wrong_kinds(), 1, -1, (0,), GREAT]]
    rows += [((0, 2, 1), 1), ((0, 1, 2, 4, 3), 3), ((1, "x"), 0), ((0, None, "x"), 1)]
    rows += [((0,) * 59 + (2,), 59), (tuple(range(59)) + (60,), 59), ((0,) * 60 + ("x",), None)]
    return rows


class PartingTests(TestCase):
    def test_need_and_is(self):
        for doors in range(1, 7):
            for row in itertools.product(range(-1, doors + 1), repeat=doors):
                good = row == brute.parting(row)
                self.assertIs(is_parting(row), good)
        for row in ((0,), (0, 1, 0, 2), FINEST, COARSEST):
            self.check(row, need_parting, row)
            self.check(True, is_parting, row)

    def test_wrong(self):
        for value, place in bad_partings():
            self.check(False, is_parting, value)
            for call in (need_parting, size_of, blocks_of):
                self.refused(BadParting, {"place": place}, call, value)
                self.refused(BadParting, {"place": place}, call, parting=value)

    def test_is_parting_takes_its_name(self):
        self.check(True, is_parting, value=(0,))

    def test_parting_of(self):
        for blocks, row in [((5,), (0,)), ((5, 3, 5, 4), (0, 1, 0, 2)), ((-1, 1, 0, -1), (0, 1, 2, 0)),
                            ((GREAT, -GREAT, GREAT, 10 ** 60), (0, 1, 0, 2)), ((2, 1, 0) * 20, (0, 1, 2) * 20),
                            (tuple(range(60, 0, -1)), FINEST), ((9,) * 60, COARSEST)]:
            self.check(row, parting_of, blocks)
            self.check(row, parting_of, blocks=blocks)
        for blocks in itertools.product((-2, 0, 7, GREAT), repeat=4):
            self.check(brute.parting(blocks), parting_of, blocks)

    def test_parting_of_wrong(self):
        for value in [*wrong_kinds(), (), (0,) * 61, ("x",) * 61, 3]:
            self.refused(BadParting, {"place": None}, parting_of, value)
        for value in [*wrong_kinds(), (), (0,)]:
            self.refused(BadParting, {"place": 0}, parting_of, (value,))
            self.refused(BadParting, {"place": 2}, parting_of, (-4, GREAT, value, "x"))
            self.refused(BadParting, {"place": 59}, parting_of, (3,) * 59 + (value,))

    def test_sizes_and_blocks(self):
        self.check(3, size_of, (0, 1, 0, 2))
        self.check(((0, 2), (1,), (3,)), blocks_of, (0, 1, 0, 2))
        self.check(60, size_of, FINEST)
        self.check(1, size_of, COARSEST)
        self.check((tuple(range(60)),), blocks_of, COARSEST)
        self.check(tuple((door,) for door in range(60)), blocks_of, FINEST)
        for row in brute.partings(6):
            blocks = tuple(tuple(d for d in range(6) if row[d] == b) for b in range(len(set(row))))
            self.check(blocks, blocks_of, row)
            self.check(len(blocks), size_of, row)

    def test_all_partings(self):
        for doors in range(1, 9):
            rows = all_partings(doors)
            self.assertEqual(len(rows), BELLS[doors])
            self.assertEqual(list(rows), sorted(set(rows)))
            self.plain(rows)
            for row in rows:
                self.assertEqual(row, brute.parting(row))
                self.assertEqual(len(row), doors)
        for doors in range(1, 7):
            self.check(tuple(brute.partings(doors)), all_partings, doors)
        self.check(((0, 0), (0, 1)), all_partings, number=2)

    def test_all_partings_wrong(self):
        for value in [*wrong_kinds(), 0, -1, 61, GREAT, -GREAT, (3,), ()]:
            self.refused(BadNumber, {"value": value}, all_partings, value)
        for value in (9, 10, 59, 60):
            self.refused(TooGreat, {"most": 5000}, all_partings, value)


class SelectingTests(TestCase):
    def test_some(self):
        self.check((0, 1, 1), parting_of_some, (0, 1, 0, 2), (3, 2, 0))
        self.check((0, 0), parting_of_some, parting=(0, 1, 0, 2), doors=(2, 0))
        for row in brute.partings(5):
            for many in range(1, 6):
                for doors in itertools.permutations(range(5), many):
                    self.check(brute.parting([row[door] for door in doors]), parting_of_some, row, doors)
        self.check(FINEST, parting_of_some, FINEST, FINEST[::-1])
        self.check((0,), parting_of_some, COARSEST, (59,))

    def test_some_wrong(self):
        row = (0, 1, 0, 2)
        for value in [*wrong_kinds(), (), tuple(range(61)), (None,) * 61, 2, GREAT]:
            self.refused(BadDoor, {"door": value}, parting_of_some, row, value)
        for value in [*wrong_kinds(), -1, 4, 60, GREAT, -GREAT, (0,), (), 1]:
            self.refused(BadDoor, {"door": value}, parting_of_some, row, (1, 3, value, "x"))
        self.refused(BadDoor, {"door": 3}, parting_of_some, row, (1, 3, 2, 3, 9))
        self.refused(BadDoor, {"door": 0}, parting_of_some, (0,), (0,) * 60)

    def test_beside(self):
        self.check((0, 1, 0, 2, 2, 3), beside, (0, 1, 0), (0, 0, 1))
        self.check((0, 1), beside, parting=(0,), other=(0,))
        for one in brute.partings(3):
            for two in brute.partings(4):
                self.check(brute.parting([("a", b) for b in one] + [("b", b) for b in two]), beside, one, two)
        self.check(FINEST, beside, FINEST[:30], FINEST[:30])
        self.check((0,) * 59 + (1,), beside, (0,) * 59, (0,))
        for one, two in ((60, 1), (1, 60), (31, 30), (60, 60)):
            self.refused(TooGreat, {"most": 60}, beside, (0,) * one, (0,) * two)


class FinerTests(TestCase):
    def test_is_finer(self):
        for doors in range(1, 6):
            rows = brute.partings(doors)
            for one in rows:
                for two in rows:
                    self.check(brute.finer(one, two), is_finer, one, two)
        self.check(True, is_finer, parting=FINEST, other=COARSEST)
        self.check(False, is_finer, COARSEST, FINEST)
        self.check(True, is_finer, COARSEST, COARSEST)

    def test_above_and_below(self):
        for doors in range(1, 6):
            rows = brute.partings(doors)
            for one in rows:
                for two in rows:
                    above = [r for r in rows if brute.finer(one, r) and brute.finer(two, r)]
                    told = finest_above(one, two)
                    self.assertIn(told, above)
                    self.assertTrue(all(brute.finer(told, r) for r in above))
                    below = [r for r in rows if brute.finer(r, one) and brute.finer(r, two)]
                    found = coarsest_below(one, two)
                    self.assertIn(found, below)
                    self.assertTrue(all(brute.finer(r, found) for r in below))
                    self.plain((told, found))

    def test_great_ones(self):
        chain = tuple(door // 2 for door in range(60))
        shifted = tuple((door + 1) // 2 for door in range(60))
        self.check(COARSEST, finest_above, chain, shifted)
        self.check(FINEST, coarsest_below, chain, shifted)
        self.check(COARSEST, finest_above, parting=FINEST, other=COARSEST)
        self.check(FINEST, coarsest_below, parting=FINEST, other=COARSEST)
        chance = random.Random(1)
        for _ in range(20):
            one = brute.parting([chance.randrange(30) for _ in range(60)])
            two = brute.parting([chance.randrange(30) for _ in range(60)])
            above, below = finest_above(one, two), coarsest_below(one, two)
            self.assertEqual(below, brute.parting(list(zip(one, two))))
            pieces = brute.components(*brute.web(one, two))
            self.assertEqual(above, brute.parting([[("P", b) in s for s in pieces].index(True) for b in one]))
