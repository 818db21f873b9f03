"""Point 46: the prices of two lots."""

import itertools
import random

from fittingdoors.errors import BadLot, BadNumber, TooGreat
from fittingdoors.prices import prices
from tests import brute
from tests.brute import TestCase, all_of, wrong_kinds

CLOSED = {}


def closed_lots(doors):
    """All closed lots: those that are something turned."""
    if doors not in CLOSED:
        rows = {all_of(doors)}
        for row in all_of(doors):
            one = set(brute.turned((row,), doors))
            rows |= {tuple(member for member in lot if member in one) for lot in rows}
        CLOSED[doors] = sorted(rows, key=lambda lot: (len(lot), lot))
    return CLOSED[doors]


def right_prices(lot, other, doors):
    if not all(brute.meets(one, two) for one in lot for two in other):
        return ()
    return tuple(row for row in closed_lots(doors) if set(lot) <= set(row)
                 and set(other) <= set(brute.turned(row, doors)))


class PriceTests(TestCase):
    def test_all_of_few_doors(self):
        for doors in (1, 2):
            for lot, other in itertools.product(brute.lots_of(doors), repeat=2):
                self.check(right_prices(lot, other, doors), prices, lot, other, doors)
        chance = random.Random(171)
        for lot in brute.lots_of(3):
            for other in (chance.choice(brute.lots_of(3)), brute.turned(lot, 3), brute.turned(lot, 3)[:1], ()):
                self.check(right_prices(lot, other, 3), prices, lot, other, 3)

    def test_some(self):
        chance = random.Random(172)
        seen = set()
        for _ in range(120):
            lot = brute.random_lot(chance, 4, 4)
            turned = brute.turned(lot, 4)
            other = tuple(sorted(chance.sample(turned, min(len(turned), chance.randrange(4)))))
            told = right_prices(lot, other, 4)
            self.check(told, prices, lot, other, 4)
            seen.add(len(told))
            other = brute.random_lot(chance, 4, 3)
            self.check(right_prices(lot, other, 4), prices, lot, other, 4)
        self.assertGreater(max(seen), 3)

    def test_facts(self):
        chance = random.Random(173)
        for _ in range(40):
            lot = brute.random_lot(chance, 5, 4)
            turned = brute.turned(lot, 5)
            if not turned:
                continue
            other = tuple(sorted(chance.sample(turned, min(len(turned), 3))))
            told = prices(lot, other, 5)
            self.assertEqual(list(told), sorted(told, key=lambda row: (len(row), row)))
            self.assertEqual((told[0], told[-1]), (brute.closed(lot, 5), brute.turned(other, 5)))
            for one, two in itertools.product(told, repeat=2):
                self.assertIn(tuple(row for row in one if row in two), told)
            for row in told:
                self.assertEqual(brute.closed(row, 5), row)

    def test_edges(self):
        self.check((((0,),),), prices, (), (), 1)
        self.check((((0,),),), prices, ((0,),), ((0,),), 1)
        self.check(((), ((0, 0),), ((0, 1),), ((0, 0), (0, 1))), prices, lot=(), other=(), number=2)
        self.check((((0, 0),),), prices, ((0, 0),), ((0, 1),), 2)
        self.check((), prices, ((0, 0),), ((0, 0),), 2)
        self.check((), prices, all_of(6), all_of(6), 6)
        self.check((all_of(6),), prices, all_of(6), (), 6)
        self.check(((),), prices, (), all_of(6), 6)
        self.assertEqual([len(prices((), (), doors)) for doors in (1, 2, 3, 4)], [1, 4, 10, 60])

    def test_two_thousand(self):
        told = tuple(closed_lots(5))
        self.assertEqual(len(told), 1134)
        self.check(told, prices, (), (), 5)
        # As many as lie between: by what one parting more leaves of the lots so far.
        for lot, many in ((((0, 0, 0, 0, 1, 2),), 734), (((0, 0, 0, 1, 2, 3),), 2034), (((0, 0, 0, 1, 1, 2),), 2603)):
            rows = {all_of(6)}
            for row in brute.turned(lot, 6):
                one = frozenset(brute.turned((row,), 6))
                rows |= {tuple(member for member in old if member in one) for old in rows}
            self.assertEqual(len(rows), many)
            if many <= 2000:
                self.check(tuple(sorted(rows, key=lambda row: (len(row), row))), prices, lot, (), 6)
            else:
                self.refused(TooGreat, {"most": 2000}, prices, lot, (), 6)
        self.refused(TooGreat, {"most": 2000}, prices, (), (), 6)

    def test_refused(self):
        for number in (*wrong_kinds(), 0, 7):
            self.refused(BadNumber, {"value": number}, prices, None, None, number)
        for lot in [*wrong_kinds(), 0]:
            self.refused(BadLot, {"word": "tuple"}, prices, lot, None, 2)
            self.refused(BadLot, {"word": "tuple"}, prices, (), lot, 2)
        self.refused(BadLot, {"word": "parting"}, prices, ((0,),), None, 2)
        self.refused(BadLot, {"word": "order"}, prices, (), ((0, 1), (0, 0)), 2)
        self.refused(BadLot, {"word": "parting"}, prices, (), ((0, 2),), 2)
