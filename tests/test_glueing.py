"""Point 41, resting on point 16: partings and lots that are tied."""

import itertools
import random

from fittingdoors.errors import BadLot, BadNumber, BadParting, BadTies, NotSound, TooGreat
from fittingdoors.glueing import glued, lot_tied, lots_joined
from fittingdoors.joining import joined, tied
from fittingdoors.lotting import is_sound, lot_of
from tests import brute
from tests.brute import TestCase, all_of, wrong_kinds


class GluedTests(TestCase):
    def test_all_of_few_doors(self):
        for doors, others in itertools.product((1, 2, 3), repeat=2):
            for row, other in itertools.product(all_of(doors), all_of(others)):
                for ties in brute.all_ties(doors, others):
                    self.check(brute.glued(row, other, ties), glued, row, other, ties)

    def test_some(self):
        chance = random.Random(131)
        for _ in range(400):
            row = chance.choice(all_of(chance.randrange(3, 7)))
            other = chance.choice(all_of(chance.randrange(3, 7)))
            ties = list(chance.choice(brute.all_ties(len(row), len(other), 4)))
            chance.shuffle(ties)
            self.check(brute.glued(row, other, tuple(ties)), glued, row, other, tuple(ties))

    def test_edges(self):
        self.check((), glued, (0,), (0,), ((0, 0),))
        self.check((), glued, (0, 0, 1), (0, 1, 1), ((0, 0), (1, 1), (2, 2)))
        self.check(None, glued, (0, 0), (0, 0), ((0, 0), (1, 1)))
        # A piece without an open door, and two pieces where no door is open.
        self.check(None, glued, (0, 1), (0, 1), ((0, 0),))
        self.check(None, glued, (0, 1), (0, 1), ((0, 0), (1, 1)))
        self.check(None, glued, (0, 0, 1), (0, 0, 1), ((0, 0), (1, 1)))
        self.check((0, 0, 1), glued, parting=(0, 1, 0), other=(0, 0), ties=((1, 0),))
        self.check((0, 1, 2), glued, (0, 1), (0,), ())
        wide = tuple(range(60))
        self.check(tuple(range(120)), glued, wide, wide, ())
        self.check((0,) * 59 + tuple(range(1, 60)), glued, (0,) * 60, wide, ((59, 0),))
        self.check(None, glued, wide, wide, ((0, 0),))
        self.check((0,) * 118, glued, (0,) * 60, (0,) * 60, ((0, 59),))
        self.check((), glued, (0,) * 60, wide, tuple((door, door) for door in range(60)))

    def test_refused(self):
        for value in [*wrong_kinds(), 0, (), (0,) * 61]:
            self.refused(BadParting, {"place": None}, glued, value, None, None)
            self.refused(BadParting, {"place": None}, glued, (0,), value, None)
        self.refused(BadParting, {"place": 1}, glued, (0, 2), None, None)
        self.refused(BadParting, {"place": 0}, glued, (0,), (True,), None)
        for value in [*wrong_kinds(), 0]:
            self.refused(BadTies, {"place": None}, glued, (0, 0), (0, 1), value)
        for value in [*wrong_kinds(), 0, (), (0,), (0, 0, 0), (2, 0), (0, 3), (-1, 0), (True, 0), (0, 1), (1, 0)]:
            if value != (0, 1):
                self.refused(BadTies, {"place": 1}, glued, (0, 0), (0, 1, 0), ((0, 0), value))
        self.refused(BadTies, {"place": 1}, glued, (0, 0), (0, 1, 0), ((0, 0), (0, 1)))


class LotTests(TestCase):
    def two(self, lot, doors, other, others, ties):
        left = doors + others - 2 * len(ties)
        if left == 0:
            self.refused(BadTies, {"place": None}, lots_joined, lot, doors, other, others, ties)
        elif left > 6:
            self.refused(TooGreat, {"most": 6}, lots_joined, lot, doors, other, others, ties)
        else:
            self.check(brute.all_glued(lot, other, ties), lots_joined, lot, doors, other, others, ties)

    def own(self, lot, doors, ties):
        if 2 * len(ties) == doors:
            self.refused(BadTies, {"place": None}, lot_tied, lot, doors, ties)
        else:
            self.check(brute.all_tied(lot, ties), lot_tied, lot, doors, ties)

    def test_all_of_few_doors(self):
        for doors, others in itertools.product((1, 2), repeat=2):
            for lot, other in itertools.product(brute.lots_of(doors), brute.lots_of(others)):
                for ties in brute.all_ties(doors, others):
                    self.two(lot, doors, other, others, ties)
        for doors in (1, 2, 3):
            for lot in brute.lots_of(doors):
                for ties in brute.own_ties(doors):
                    self.own(lot, doors, ties)

    def test_some(self):
        chance = random.Random(132)
        for _ in range(300):
            doors, others = chance.randrange(1, 7), chance.randrange(1, 7)
            lot, other = brute.random_lot(chance, doors), brute.random_lot(chance, others)
            ties = list(chance.choice(brute.all_ties(doors, others, 5)))
            chance.shuffle(ties)
            self.two(lot, doors, other, others, tuple(ties))
            ties = [tuple(chance.sample(tie, 2)) for tie in chance.choice(brute.own_ties(doors))]
            self.own(lot, doors, tuple(ties))
        for doors in range(1, 7):
            for lot in ((), all_of(doors)):
                self.two(lot, doors, all_of(3), 3, ((0, 1),))
                self.two(lot, doors, (), 3, ())
                for ties in brute.own_ties(doors):
                    self.own(lot, doors, ties)

    def test_fact_of_pieces(self):
        chance = random.Random(133)
        seen = set()
        for _ in range(250):
            doors, others = chance.randrange(1, 5), chance.randrange(1, 5)
            piece, other = brute.sound_piece(chance, doors, 5), brute.sound_piece(chance, others, 5)
            ties = chance.choice(brute.all_ties(doors, others))
            if 1 <= doors + others - 2 * len(ties) <= 6:
                seen.add(self.same(joined(piece, other, ties),
                                   lots_joined(lot_of(piece), doors, lot_of(other), others, ties)))
            piece = brute.sound_piece(chance, 5, 6)
            ties = chance.choice(brute.own_ties(5))
            seen.add(self.same(tied(piece, ties), lot_tied(lot_of(piece), 5, ties)))
        self.assertEqual(seen, {True, False})

    def same(self, piece, lot):
        self.assertEqual(is_sound(piece), lot is not None)
        if lot is None:
            with self.assertRaises(NotSound):
                lot_of(piece)
        else:
            self.assertEqual(lot_of(piece), lot)
        return lot is None

    def test_names(self):
        either = ((0, 1, 0), (0, 1, 1))
        self.check(((0, 1),), lots_joined, lot=either, number=3, other=((0, 0, 1),), other_number=3,
                   ties=((0, 0), (2, 2)))
        self.check(((0, 1),), lots_joined, lot=((0, 0, 1),), number=3, other=((0,),), other_number=1, ties=((0, 0),))
        self.check(((0,),), lot_tied, lot=((0, 0, 1),), number=3, ties=((1, 2),))
        self.check(None, lot_tied, lot=((0, 0, 1),), number=3, ties=((1, 0),))

    def test_refused(self):
        for number in (*wrong_kinds(), 0, 7):
            self.refused(BadNumber, {"value": number}, lots_joined, None, number, None, None, None)
            self.refused(BadNumber, {"value": number}, lots_joined, (), 2, None, number, None)
            self.refused(BadNumber, {"value": number}, lot_tied, None, number, None)
        self.refused(BadLot, {"word": "tuple"}, lots_joined, None, 2, None, 9, None)
        self.refused(BadLot, {"word": "order"}, lots_joined, (), 2, ((0, 1), (0, 0)), 2, None)
        self.refused(BadLot, {"word": "parting"}, lot_tied, ((0,),), 2, None)
        for value in [*wrong_kinds(), 0]:
            self.refused(BadTies, {"place": None}, lots_joined, (), 6, (), 6, value)
            self.refused(BadTies, {"place": None}, lot_tied, (), 6, value)
        for value in [*wrong_kinds(), 0, (), (0,), (0, 0), (1, 2), (2, 1), (2, 6), (-1, 2), (True, 2), (2, 3, 4), (3, 3)]:
            self.refused(BadTies, {"place": 1}, lot_tied, (), 6, ((0, 1), value))
        self.refused(BadTies, {"place": 0}, lots_joined, (), 6, (), 6, ((6, 0),))
        self.refused(BadTies, {"place": 1}, lots_joined, (), 6, (), 6, ((0, 1), (0, 2)))
        self.refused(BadTies, {"place": 1}, lots_joined, (), 6, (), 6, ((0, 1), (2, 1)))
        self.refused(TooGreat, {"most": 6}, lots_joined, (), 6, (), 6, ((0, 1), (2, 3)))
        self.check((), lots_joined, (), 6, (), 6, ((0, 1), (2, 3), (4, 5)))
        self.refused(BadTies, {"place": None}, lots_joined, (), 2, (), 2, ((0, 1), (1, 0)))
        self.refused(BadTies, {"place": None}, lot_tied, (), 2, ((0, 1),))
