"""Points 12 and 34: lots, turned and closed ones."""

import itertools
import random

from fittingdoors.errors import BadLot, BadNumber
from fittingdoors.lots import need_lot
from fittingdoors.turning import closed, closed_lots, is_closed, turned
from tests import brute
from tests.brute import GREAT, TestCase, wrong_kinds

ALL = {doors: brute.all_of(doors) for doors in range(1, 7)}


class LotTests(TestCase):
    def test_need_lot(self):
        for doors in (1, 2, 3):
            for lot in brute.lots_of(doors):
                self.check(lot, need_lot, lot, doors)
        for doors in range(1, 7):
            self.check((), need_lot, (), doors)
            self.check(ALL[doors], need_lot, ALL[doors], doors)
            self.check(ALL[doors][-1:], need_lot, lot=ALL[doors][-1:], number=doors)

    def test_wrong_numbers_first(self):
        for call in (need_lot, turned, closed, is_closed):
            for number in [*wrong_kinds(), 0, -1, 7, 60, GREAT, -GREAT, (3,), ()]:
                for lot in ((), None, ("x",), ((0, 0), (0, 0)), ((0,) * 7,)):
                    self.refused(BadNumber, {"value": number}, call, lot, number)

    def test_wrong_lots(self):
        good = ((0, 0, 0), (0, 0, 1), (0, 1, 0), (0, 1, 2))
        for call in (need_lot, turned, closed, is_closed):
            for value in [*wrong_kinds(), 0, GREAT, list(good)]:
                self.refused(BadLot, {"word": "tuple"}, call, value, 3)
            for value in [*wrong_kinds(), 0, (), (0,), (0, 0), (0, 0, 0, 0), (0, 0, 2), (1, 0, 0), [0, 1, 1], (0, 1, True),
                          (0, 1, None), (0, 1, "1"), (0, 1, (1,)), (0, 1, GREAT), (0,) * 61]:
                for place in range(4):
                    lot = (*good[:place], value, *good[place + 1:])
                    self.refused(BadLot, {"word": "parting"}, call, lot, 3)
            for place in range(1, 4):
                for ahead in range(place):
                    lot = (*good[:place], good[ahead], *good[place + 1:])
                    self.refused(BadLot, {"word": "order"}, call, lot, 3)
            self.refused(BadLot, {"word": "order"}, call, (good[1], good[0], "x"), 3)
            self.refused(BadLot, {"word": "parting"}, call, (good[1], "x", good[0]), 3)
            self.refused(BadLot, {"word": "parting"}, call, good, 2)
            self.refused(BadLot, {"word": "parting"}, call, good, 4)


class TurningTests(TestCase):
    def one(self, lot, doors):
        right = brute.turned(lot, doors)
        again = brute.turned(right, doors)
        self.check(right, turned, lot, doors)
        self.check(again, closed, lot, doors)
        self.check(again == lot, is_closed, lot, doors)

    def test_all_lots_of_few_doors(self):
        for doors in (1, 2, 3):
            for lot in brute.lots_of(doors):
                self.one(lot, doors)

    def test_some_lots(self):
        chance = random.Random(36)
        for doors in (4, 5, 6):
            self.one((), doors)
            self.one(ALL[doors], doors)
            for row in ALL[doors]:
                self.one((row,), doors)
            for _ in range(30):
                size = chance.randrange(1, doors + 1)
                rows = [row for row in ALL[doors] if max(row) + 1 == size]
                many = chance.randrange(1, min(5, len(rows)) + 1)
                self.one(tuple(sorted(chance.sample(rows, many))), doors)
                self.one(tuple(sorted(chance.sample(ALL[doors], many))), doors)

    def test_names(self):
        self.check(((0, 1, 0), (0, 1, 1)), turned, lot=((0, 0, 1),), number=3)
        self.check(((0, 0, 1),), closed, lot=((0, 0, 1),), number=3)
        self.check(True, is_closed, lot=((0, 0, 1),), number=3)
        self.check((((0,),),), closed_lots, number=1)

    def test_ends(self):
        self.check(((0,),), turned, (), 1)
        self.check(((0,),), turned, ((0,),), 1)
        self.check(False, is_closed, (), 1)
        for doors in range(2, 7):
            self.check(ALL[doors], turned, (), doors)
            self.check((), turned, ALL[doors], doors)
            self.check((), closed, (), doors)
            self.check(ALL[doors], closed, ALL[doors], doors)

    def test_closed_lots(self):
        for doors, many in ((1, 1), (2, 4), (3, 10), (4, 60)):
            rows = closed_lots(doors)
            self.assertEqual(len(rows), many)
            self.assertEqual(list(rows), sorted(set(rows)))
            self.plain(rows)
            for lot in rows:
                self.assertEqual(brute.turned(brute.turned(lot, doors), doors), lot)
        for doors in (1, 2, 3):
            right = tuple(sorted(lot for lot in brute.lots_of(doors)
                                 if brute.turned(brute.turned(lot, doors), doors) == lot))
            self.check(right, closed_lots, doors)
        # Of four doors each closed lot is turned of some lot: here of all lots of up to three partings.
        four = set(closed_lots(4))
        for many in range(4):
            for lot in itertools.combinations(ALL[4], many):
                self.assertIn(brute.turned(lot, 4), four)

    def test_closed_lots_wrong(self):
        for value in [*wrong_kinds(), 0, -1, 5, 6, GREAT, (1,), ()]:
            self.refused(BadNumber, {"value": value}, closed_lots, value)
