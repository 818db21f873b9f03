"""Point 45: which two doors of a lot are in one block always, sometimes or never."""

import itertools
import random

from fittingdoors.errors import BadLot, BadNumber
from fittingdoors.together import doors_joined
from tests import brute
from tests.brute import TestCase, all_of, form_piece, knot_of, random_form, wrong_kinds


class TogetherTests(TestCase):
    def right(self, lot, doors):
        told = []
        for one, two in itertools.combinations(range(doors), 2):
            rows = [row[one] == row[two] for row in lot]
            told.append((one, two, "always" if all(rows) else "sometimes" if any(rows) else "never"))
        return tuple(told)

    def test_all_lots_of_few_doors(self):
        for doors in (1, 2, 3):
            for lot in brute.lots_of(doors):
                if lot:
                    self.check(self.right(lot, doors), doors_joined, lot, doors)

    def test_some_lots(self):
        chance = random.Random(161)
        for _ in range(300):
            doors = chance.randrange(4, 7)
            lot = brute.random_lot(chance, doors)
            if lot:
                self.check(self.right(lot, doors), doors_joined, lot, doors)

    def test_edges(self):
        self.check((), doors_joined, ((0,),), 1)
        self.check(((0, 1, "always"),), doors_joined, ((0, 0),), 2)
        self.check(((0, 1, "never"),), doors_joined, ((0, 1),), 2)
        self.check(((0, 1, "sometimes"),), doors_joined, lot=((0, 0), (0, 1)), number=2)
        pairs = tuple(itertools.combinations(range(6), 2))
        for lot, word in ((((0,) * 6,), "always"), (all_of(6), "sometimes"), ((tuple(range(6)),), "never")):
            self.check(tuple((*pair, word) for pair in pairs), doors_joined, lot, 6)

    def test_facts(self):
        chance = random.Random(162)
        for _ in range(150):
            doors = chance.randrange(2, 6)
            lot = brute.random_lot(chance, doors)
            if not lot:
                continue
            told = {(one, two): word for one, two, word in doors_joined(lot, doors)}
            for pair in told:
                if told[pair] == "always":
                    self.assertFalse([row for row in brute.turned(lot, doors) if row[pair[0]] == row[pair[1]]])
            for ties in brute.own_ties(doors):
                if brute.all_tied(lot, ties) is not None:
                    self.assertEqual({told[tie] for tie in ties} - {"never"}, set())

    def test_fact_of_forms(self):
        chance = random.Random(163)
        for _ in range(60):
            doors = chance.randrange(1, 7)
            form = random_form(chance, chance.sample(range(doors), doors))
            for one, two, word in doors_joined(brute.lot(form_piece(form, doors)), doors):
                self.assertEqual(word == "never", knot_of(form, one, two) == "either")

    def test_refused(self):
        for number in (*wrong_kinds(), 0, 7):
            self.refused(BadNumber, {"value": number}, doors_joined, None, number)
        for lot in [*wrong_kinds(), 0]:
            self.refused(BadLot, {"word": "tuple"}, doors_joined, lot, 2)
        self.refused(BadLot, {"word": "parting"}, doors_joined, ((0,),), 2)
        self.refused(BadLot, {"word": "order"}, doors_joined, ((0, 1), (0, 0)), 2)
        self.refused(BadLot, {"word": "empty"}, doors_joined, (), 1)
        self.refused(BadLot, {"word": "empty"}, doors_joined, (), 6)
