"""Point 44: ties that come for two lots."""

import itertools
import random

from fittingdoors.errors import BadLot, BadNumber, BadTies
from fittingdoors.joining import fit
from fittingdoors.lotting import lot_of
from fittingdoors.tying import all_ties, most_ties, ties_come, ties_counted
from tests import brute
from tests.brute import TestCase, all_of, wrong_kinds


class TyingTests(TestCase):
    def one(self, lot, doors, other, others):
        tries = brute.all_ties(doors, others)
        rows = [ties for ties in tries if brute.all_glued(lot, other, ties) is not None]
        for ties in tries if len(tries) < 40 else random.Random(1).sample(tries, 40):
            self.check(ties in rows, ties_come, lot, doors, other, others, ties[::-1])
        counts = [sum(len(ties) == many for ties in rows) for many in range(min(doors, others) + 1)]
        most = max(len(ties) for ties in rows)
        self.check(tuple(counts[:most + 1]), ties_counted, lot, doors, other, others)
        for many in range(min(doors, others) + 1):
            self.check(tuple(sorted(ties for ties in rows if len(ties) == many)),
                       all_ties, lot, doors, other, others, many)
        self.check((most, min(ties for ties in rows if len(ties) == most)), most_ties, lot, doors, other, others)
        # Of ties that come, all ties among them come.
        told = set(rows)
        self.assertTrue(all(ties[:at] + ties[at + 1:] in told for ties in rows for at in range(len(ties))))

    def test_few_doors(self):
        for doors, others in itertools.product((1, 2), repeat=2):
            for lot, other in itertools.product(brute.lots_of(doors), brute.lots_of(others)):
                self.one(lot, doors, other, others)
        chance = random.Random(151)
        for _ in range(60):
            doors, others = chance.choice(((3, 1), (3, 2), (2, 3), (3, 3), (1, 3)))
            self.one(chance.choice(brute.lots_of(doors)), doors, chance.choice(brute.lots_of(others)), others)

    def test_some(self):
        chance = random.Random(152)
        for _ in range(25):
            doors, others = chance.randrange(1, 6), chance.randrange(1, 5)
            self.one(brute.random_lot(chance, doors, 4), doors, brute.random_lot(chance, others, 4), others)

    def test_six_doors(self):
        sets = (1, 36, 450, 2400, 5400, 4320, 720)
        one, singles = ((0,) * 6,), (tuple(range(6)),)
        same = tuple((door, door) for door in range(6))
        for lot, other in (((), ()), ((), all_of(6)), (all_of(6), ()), (one, singles), (singles, one)):
            self.check(sets, ties_counted, lot, 6, other, 6)
            self.check((6, same), most_ties, lot, 6, other, 6)
            self.check(720, len, all_ties(lot, 6, other, 6, 6))
        self.check((1,), ties_counted, all_of(6), 6, all_of(6), 6)
        self.check((0, ()), most_ties, all_of(6), 6, all_of(6), 6)
        self.check((), all_ties, all_of(6), 6, all_of(6), 6, 1)
        self.check(((),), all_ties, all_of(6), 6, all_of(6), 6, 0)
        self.check((1, 36), ties_counted, one, 6, one, 6)
        self.check((1,), ties_counted, singles, 6, singles, 6)

    def test_fact_of_pieces(self):
        chance = random.Random(153)
        seen = set()
        for _ in range(200):
            doors = chance.randrange(1, 6)
            piece, other = brute.sound_piece(chance, doors, 5), brute.sound_piece(chance, doors, 5)
            ties = tuple((door, door) for door in range(doors))
            told = ties_come(lot_of(piece), doors, lot_of(other), doors, ties)
            self.assertEqual(told, fit(piece, other))
            seen.add(told)
        self.assertEqual(seen, {True, False})

    def test_names(self):
        lot, other = ((0, 0, 0),), ((0, 1),)
        self.check(True, ties_come, lot=lot, number=3, other=other, other_number=2, ties=((0, 1),))
        self.check((1, 6, 6), ties_counted, lot=lot, number=3, other=other, other_number=2)
        rows = tuple(((one, kept), (two, 1 - kept)) for one in (0, 1) for kept in (0, 1) for two in range(one + 1, 3))
        self.check(tuple(sorted(rows)), all_ties, lot=lot, number=3, other=other, other_number=2, many=2)
        self.check((2, ((0, 0), (1, 1))), most_ties, lot=lot, number=3, other=other, other_number=2)
        # A piece without an open door comes by two ties of the one block.
        self.check((1, 4), ties_counted, ((0, 0, 1),), 3, ((0, 1),), 2)

    def test_refused(self):
        for call, rest in ((ties_come, (None,)), (ties_counted, ()), (all_ties, (None,)), (most_ties, ())):
            for number in (*wrong_kinds(), 0, 7):
                self.refused(BadNumber, {"value": number}, call, None, number, None, None, *rest)
                self.refused(BadNumber, {"value": number}, call, (), 2, None, number, *rest)
            self.refused(BadLot, {"word": "tuple"}, call, None, 2, None, 9, *rest)
            self.refused(BadLot, {"word": "parting"}, call, (), 2, ((0, 0, 0),), 2, *rest)
            self.refused(BadLot, {"word": "order"}, call, (), 2, ((0, 1), (0, 0)), 2, *rest)
        for value in [*wrong_kinds(), 0]:
            self.refused(BadTies, {"place": None}, ties_come, (), 2, (), 3, value)
        for value in [*wrong_kinds(), 0, (), (0, 2), (1, 0), (2, 1), (1, 3), (1, True), (1, 2, 3)]:
            self.refused(BadTies, {"place": 1}, ties_come, (), 2, (), 3, ((0, 0), value))
        for value in [*wrong_kinds(), -1, 3, 10 ** 999, (1,)]:
            self.refused(BadNumber, {"value": value}, all_ties, (), 2, (), 3, value)
            self.refused(BadNumber, {"value": value}, all_ties, (), 6, (), 2, value)
