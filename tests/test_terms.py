"""Points 48 and 49: the lots of terms, gains, and systems in which terms stand."""

import random

from fittingdoors.errors import BadLetter, BadLot, BadNumber, BadTerm, NotSound
from fittingdoors.joining import fit
from fittingdoors.letters import alphabet_of, term_piece
from fittingdoors.lotting import MOST_EITHER_KNOTS, is_sound, lot_of
from fittingdoors.melting import fits_tree
from fittingdoors.terms import gains, need_system, term_lot, term_stands
from tests import brute
from tests.brute import TestCase, all_of, wrong_kinds
from tests.test_letters import A, B, deep


def random_rows(chance):
    """Letters with sound pieces, as a rule with terms."""
    rows = []
    for number in range(chance.randrange(2, 5)):
        up = number + 1 if number < 2 else chance.choice((1, 2, 2, 3))
        downs = tuple(chance.choice((1, 1, 2)) for _ in range(chance.choice((1, 1, 2)) if number > 1 else 0))
        downs = downs if up + sum(downs) <= 6 else downs[:1]
        rows.append((up, downs, brute.sound_piece(chance, up + sum(downs), 4)))
    return tuple(rows)


class LotTests(TestCase):
    def test_all_small_terms(self):
        chance = random.Random(211)
        seen = []
        for _ in range(150):
            alphabet = brute.random_alphabet(chance, 5, sound=chance.random() < 0.6)
            terms = brute.all_terms(alphabet, 5)
            for term in chance.sample(terms, min(len(terms), 12)):
                told = brute.term_lot(alphabet, term)
                self.check(told, term_lot, alphabet, term)
                seen.append((len(term), told is None))
        for many in (1, 2, 3):
            self.assertGreater(seen.count((many, False)), 20)
            if many > 1:
                self.assertGreater(seen.count((many, True)), 20)

    def test_example(self):
        self.check(((0, 0),), term_lot, alphabet=A, term=(1, (0,)))
        self.check(None, term_lot, A, (1, (2,)))
        self.check(None, term_lot, A, (1, (1, (2,))))
        self.check(((0, 0),), term_lot, A, deep(1, 40, (0,)))
        self.check(None, term_lot, A, deep(1, 40, (2,)))

    def test_great_terms(self):
        # An EITHER knot with one bundle to each side, and one letter that has one door.
        fork = ((1, (), ((0,),)), (1, (1, 1), ((0, 0, 1), (0, 1, 0))), (1, (1, 1), ((0, 0, 0),)))

        def wood(letter, many):
            return (0,) if many == 1 else (letter, wood(letter, many // 2), wood(letter, many - many // 2))

        self.check(None, term_lot, fork, wood(1, 100))
        self.check(((0,),), term_lot, fork, wood(2, 100))
        # Many lots with many partings, each told once.
        rows = tuple(row for row in all_of(4) if max(row) == 1 and len(set(row[2:])) == 2)
        alphabet = ((2, (), ((0, 0),)), (2, (2,), ((0, 1, 0, 1), (0, 1, 1, 0))), (2, (), ((0, 0), (0, 1))))
        self.check(((0, 0),), term_lot, alphabet, deep(1, 40, (0,)))
        self.check(((0, 0), (0, 1)), term_lot, alphabet, deep(1, 40, (2,)))
        self.check(((0, 0),), term_lot, ((2, (2,), rows), (2, (), ((0, 0),))), deep(0, 40, (1,)))
        self.check(None, term_lot, ((2, (2,), rows), (2, (), ((0, 1),))), deep(0, 40, (1,)))
        self.check(rows, term_lot, ((2, (2,), rows), (4, (), rows)), (1,))

    def test_fact_of_pieces(self):
        chance = random.Random(212)
        seen = set()
        for _ in range(60):
            rows = random_rows(chance)
            alphabet = alphabet_of(rows)
            terms = brute.all_terms(alphabet, 4)
            for term in chance.sample(terms, min(len(terms), 6)):
                piece = term_piece(rows, term)
                lot = term_lot(alphabet, term)
                if piece[1].count("either") <= MOST_EITHER_KNOTS:
                    self.assertEqual(is_sound(piece), lot is not None)
                    if lot is None:
                        with self.assertRaises(NotSound):
                            lot_of(piece)
                    else:
                        self.assertEqual(lot_of(piece), lot)
                for row in all_of(piece[0]):
                    right = lot is not None and all(brute.meets(row, one) for one in lot)
                    self.assertEqual(fits_tree(piece, row), right)
                seen.add(lot is None)
        self.assertEqual(seen, {True, False})

    def test_gains(self):
        self.check((1, 0, 2), gains, alphabet=A)
        self.check((None, 1, -4), gains, ((2, (), ((0, 0), (0, 1))), (2, (), ((0, 0),)), (1, (5,), ((0,) * 6,))))
        self.check((None, 0), gains, ((1, (2,), ((0, 0, 0), (0, 0, 1))), (1, (2,), ((0, 0, 1), (0, 1, 0), (0, 1, 1)))))
        chance = random.Random(213)
        for _ in range(80):
            alphabet = brute.random_alphabet(chance, 5, sound=chance.random() < 0.5)
            told = gains(alphabet)
            for (_, downs, lot), one in zip(alphabet, told):
                sizes = {len(set(row)) for row in lot}
                self.assertEqual(one, None if len(sizes) > 1 else sizes.pop() - sum(downs))
            for term in brute.all_terms(alphabet, 4)[:20]:
                letters, _ = brute.term_web(alphabet, term)
                lot = term_lot(alphabet, term)
                if lot is not None and all(told[letter] is not None for letter in letters):
                    self.assertEqual({len(set(row)) for row in lot}, {sum(told[letter] for letter in letters)})

    def test_refused(self):
        for call in (term_lot, lambda alphabet, term: gains(alphabet)):
            for value in [*wrong_kinds(), 0, ()]:
                self.refused(BadLetter, {"number": None}, call, value, None)
            self.refused(BadLetter, {"number": 1}, call, (A[0], (2, (), ())), None)
        for value in [*wrong_kinds(), 0, (), (3,), (1,)]:
            self.refused(BadTerm, {"path": ()}, term_lot, A, value)
        self.refused(BadTerm, {"path": (0,)}, term_lot, A, (1, (3,)))
        self.refused(BadTerm, {"path": (0,) * 40}, term_lot, A, deep(1, 41, (0,)))
        self.refused(BadTerm, {"path": (1,)}, term_lot, B, (2, (0,), (0,)))


class SystemTests(TestCase):
    def test_terms_that_stand(self):
        chance = random.Random(214)
        seen = []
        for _ in range(150):
            alphabet = brute.random_alphabet(chance, 5, sound=chance.random() < 0.7)
            width = chance.choice((1, 2, 2, 3))
            goal = ()
            while not goal:
                goal = brute.random_lot(chance, width, 3)
            system = (alphabet, width, goal)
            self.check(system, need_system, system)
            terms = brute.all_terms(alphabet, 4)
            for term in chance.sample(terms, min(len(terms), 8)):
                lot = brute.term_lot(alphabet, term)
                right = alphabet[term[0]][0] == width and lot is not None \
                    and all(brute.meets(one, two) for one in lot for two in goal)
                self.check(right, term_stands, system, term)
                seen.append(right)
        self.assertGreater(seen.count(True), 40)

    def test_example(self):
        system = (A, 2, ((0, 1),))
        told = [term_stands(system, term) for term in ((0,), (1, (0,)), (2,), (1, (2,)))]
        self.assertEqual(told, [True, True, False, False])
        self.check(False, term_stands, system=(A, 3, ((0, 1, 2),)), term=(0,))
        self.check(True, term_stands, (A, 2, ((0, 0),)), (2,))
        self.check(False, term_stands, (A, 2, ((0, 0), (0, 1))), (2,))

    def test_fact_of_pieces(self):
        # Tied to a piece with the lot of the goal the piece of the term stands exactly then.
        chance = random.Random(215)
        seen = set()
        for _ in range(60):
            rows = random_rows(chance)
            alphabet = alphabet_of(rows)
            width = chance.choice([up for up, _, _ in rows])
            other = brute.sound_piece(chance, width, 4)
            system = (alphabet, width, lot_of(other))
            for term in brute.all_terms(alphabet, 3)[:8]:
                told = term_stands(system, term)
                self.assertEqual(told, fit(term_piece(rows, term), other))
                seen.add(told)
        self.assertEqual(seen, {True, False})

    def test_refused(self):
        good = (A, 2, ((0, 1),))
        self.check(good, need_system, system=good)
        for call in (need_system, lambda system: term_stands(system, None)):
            for value in [*wrong_kinds(), 0, (), good[:2], good + ((),), list(good)]:
                self.refused(BadLetter, {"number": None}, call, value)
            for value in [*wrong_kinds(), 0, (), A * 3]:
                self.refused(BadLetter, {"number": None}, call, (value, None, None))
            self.refused(BadLetter, {"number": 2}, call, (A[:2] + ((2, (), ()),), None, None))
            for value in [*wrong_kinds(), 0, 6, -1, 10 ** 999, (2,)]:
                self.refused(BadNumber, {"value": value}, call, (A, value, None))
            for word, goals in (("tuple", [*wrong_kinds(), 0]), ("parting", [((0,),), (None,)]),
                                ("order", [((0, 1), (0, 0))]), ("empty", [()])):
                for goal in goals:
                    self.refused(BadLot, {"word": word}, call, (A, 2, goal))
        for value in [*wrong_kinds(), 0, (), (3,), (1,)]:
            self.refused(BadTerm, {"path": ()}, term_stands, good, value)
        self.refused(BadTerm, {"path": (0,)}, term_stands, good, (1, None))
