"""Points 34, 35 and 36: what lots share and span, lots beside one another, and their sides."""

import itertools
import random

from fittingdoors.besides import lots_beside, side_parts
from fittingdoors.errors import BadLot, BadNumber, TooGreat
from fittingdoors.order import met, spanned
from fittingdoors.turning import closed, closed_lots, is_closed, turned
from tests import brute
from tests.brute import TestCase, all_of


def union(*lots):
    return tuple(sorted(set().union(*lots)))


def beside(one, two):
    return brute.parting([("A", block) for block in one] + [("B", block) for block in two])


def chosen_together(lot, sides):
    """All partings that come if for each block of SIDES what some parting of the lot has there is chosen."""
    blocks = [[door for door in range(len(sides)) if sides[door] == block] for block in range(max(sides) + 1)]
    rows = set()
    for choice in itertools.product(lot, repeat=len(blocks)):
        names = {door: (at, row[door]) for at, (doors, row) in enumerate(zip(blocks, choice)) for door in doors}
        rows.add(brute.parting([names[door] for door in range(len(sides))]))
    return rows


def right_sides(lot):
    """All partings with the two rules of the document."""
    return [sides for sides in all_of(len(lot[0])) if all(brute.finer(row, sides) for row in lot)
            and chosen_together(lot, sides) <= set(lot)]


class OrderTests(TestCase):
    def one(self, lot, other, doors):
        self.check(tuple(row for row in lot if row in other), met, lot, other, doors)
        self.check(brute.closed(union(lot, other), doors), spanned, lot, other, doors)

    def test_all_lots_of_few_doors(self):
        for doors in (1, 2):
            for lot, other in itertools.product(brute.lots_of(doors), repeat=2):
                self.one(lot, other, doors)
        chance = random.Random(81)
        for lot, other in itertools.product(chance.sample(brute.lots_of(3), 12), repeat=2):
            self.one(lot, other, 3)

    def test_some_lots(self):
        chance = random.Random(82)
        for _ in range(60):
            doors = chance.randrange(4, 7)
            self.one(brute.random_lot(chance, doors), brute.random_lot(chance, doors, 20), doors)
        for doors in range(1, 7):
            for lot, other in itertools.product(((), all_of(doors), all_of(doors)[:1]), repeat=2):
                self.one(lot, other, doors)

    def test_names(self):
        self.check(((0, 1),), met, lot=((0, 0), (0, 1)), other=((0, 1),), number=2)
        self.check(((0, 0), (0, 1)), spanned, lot=((0, 0),), other=((0, 1),), number=2)

    def test_facts_of_34(self):
        for doors, many in ((1, 1), (2, 4), (3, 10), (4, 60)):
            self.assertEqual(len(closed_lots(doors)), many)
        self.check(((0,),), turned, (), 1)
        self.check(((0,),), closed, (), 1)
        for doors in range(2, 7):
            for lot, other in (((), all_of(doors)), (all_of(doors), ())):
                self.check(True, is_closed, lot, doors)
                self.check(other, turned, lot, doors)
        chance = random.Random(83)
        for _ in range(40):
            doors = chance.randrange(1, 7)
            lot = brute.random_lot(chance, doors)
            more = union(lot, brute.random_lot(chance, doors))
            self.assertLessEqual(set(turned(more, doors)), set(turned(lot, doors)))
            self.assertEqual(turned(closed(lot, doors), doors), turned(lot, doors))
            if doors > 1 and len({max(row) for row in lot}) > 1:
                self.assertEqual(turned(lot, doors), ())
        for lot in brute.lots_of(3):
            above = [other for other in closed_lots(3) if set(lot) <= set(other)]
            least = closed(lot, 3)
            self.assertIn(least, above)
            self.assertTrue(all(set(least) <= set(other) for other in above))

    def test_facts_of_35(self):
        for doors in (2, 3, 4):
            rows = closed_lots(doors)
            chance = random.Random(84)
            for lot, other in itertools.product(chance.sample(rows, min(12, len(rows))), repeat=2):
                one, two = turned(lot, doors), turned(other, doors)
                self.assertEqual(turned(spanned(lot, other, doors), doors), met(one, two, doors))
                self.assertEqual(turned(met(lot, other, doors), doors), spanned(one, two, doors))
            for lot in rows:
                self.assertEqual(met(lot, turned(lot, doors), doors), ())
                self.assertEqual(spanned(lot, turned(lot, doors), doors), all_of(doors))

    def test_refused(self):
        for call in (met, spanned):
            for number in (0, 7, True, None, "3", 10 ** 999):
                self.refused(BadNumber, {"value": number}, call, None, None, number)
            self.refused(BadLot, {"word": "tuple"}, call, [], None, 3)
            self.refused(BadLot, {"word": "parting"}, call, ((0, 0),), None, 3)
            self.refused(BadLot, {"word": "order"}, call, ((0, 0), (0, 0)), None, 2)
            self.refused(BadLot, {"word": "tuple"}, call, (), None, 3)
            self.refused(BadLot, {"word": "parting"}, call, (), ((0, 0), (0, 0)), 3)
            self.refused(BadLot, {"word": "order"}, call, (), ((0, 1), (0, 0)), 2)


class BesideTests(TestCase):
    def test_lots_beside(self):
        for doors, others in itertools.product((1, 2), repeat=2):
            for lot, other in itertools.product(brute.lots_of(doors), brute.lots_of(others)):
                right = tuple(sorted(beside(one, two) for one in lot for two in other))
                self.check(right, lots_beside, lot, doors, other, others)
        for doors in range(1, 6):
            lot, other = all_of(doors), all_of(6 - doors)
            right = tuple(sorted(beside(one, two) for one in lot for two in other))
            self.check(right, lots_beside, lot=lot, number=doors, other=other, other_number=6 - doors)
            self.check((), lots_beside, lot, doors, (), 6 - doors)
            self.refused(TooGreat, {"most": 6}, lots_beside, lot, doors, (), 7 - doors)
        self.refused(TooGreat, {"most": 6}, lots_beside, (), 6, (), 6)

    def test_fact_of_lots_beside(self):
        chance = random.Random(85)
        done = 0
        while done < 40:
            doors, others = chance.choice(((1, 2), (2, 2), (1, 3), (3, 2), (3, 3), (2, 4), (4, 1), (5, 1)))
            lot, other = brute.random_lot(chance, doors), brute.random_lot(chance, others)
            if lot and other and turned(lot, doors) and turned(other, others):
                done += 1
                self.assertEqual(closed(lots_beside(lot, doors, other, others), doors + others),
                                 lots_beside(closed(lot, doors), doors, closed(other, others), others))

    def one_side(self, lot, doors):
        rows = right_sides(lot)
        finest = [sides for sides in rows if all(brute.finer(sides, other) for other in rows)]
        self.assertEqual(len(finest), 1)
        self.check(finest[0], side_parts, lot, doors)

    def test_sides(self):
        for doors in (1, 2, 3):
            for lot in brute.lots_of(doors)[1:]:
                self.one_side(lot, doors)
        chance = random.Random(86)
        for _ in range(40):
            self.one_side(brute.random_lot(chance, 4, 4) or ((0, 0, 1, 1),), 4)
        for _ in range(10):
            lot = lots_beside(brute.random_lot(chance, 2, 3) or ((0, 0),), 2,
                              brute.random_lot(chance, 3, 3) or ((0, 0, 1),), 3)
            self.one_side(lot, 5)
        for doors in range(1, 7):
            self.check((0,) * doors, side_parts, all_of(doors), doors)
            for row in all_of(doors)[::7]:
                self.check(row, side_parts, (row,), doors)
        self.check((0, 0, 1), side_parts, lot=((0, 0, 1), (0, 1, 2)), number=3)

    def test_refused(self):
        self.refused(BadLot, {"word": "empty"}, side_parts, (), 3)
        self.refused(BadNumber, {"value": 7}, side_parts, (), 7)
        self.refused(BadLot, {"word": "order"}, side_parts, ((0, 1), (0, 0)), 2)
        self.refused(BadLot, {"word": "tuple"}, side_parts, [], 2)
        for number in (0, 7, None, True):
            self.refused(BadNumber, {"value": number}, lots_beside, None, number, None, 9)
            self.refused(BadLot, {"word": "tuple"}, lots_beside, None, 5, None, number)
            self.refused(BadNumber, {"value": number}, lots_beside, (), 5, None, number)
        self.refused(BadLot, {"word": "tuple"}, lots_beside, (), 5, None, 5)
        self.refused(BadLot, {"word": "parting"}, lots_beside, (), 5, ((0, 0),), 5)
