"""Points 50 and 51: the states of an alphabet, the classes of terms of a system, and its least table."""

import itertools
import random

from fittingdoors.errors import BadLetter, BadLot, BadNumber, BadTerm
from fittingdoors.letters import alphabet_of
from fittingdoors.states import all_states, state_of
from fittingdoors.tables import class_of, least_table
from fittingdoors.terms import term_lot, term_stands
from tests import brute
from tests.brute import TestCase, all_of, wrong_kinds
from tests.test_letters import A, B, deep

NO_TERM = ((1, (1,), ((0, 0),)), (2, (1, 2), ((0, 0, 0, 0, 0),)))


def right_state(alphabet, term):
    up = alphabet[term[0]][0]
    lot = brute.term_lot(alphabet, term)
    turned = () if lot is None else brute.turned(lot, up)
    return up, brute.turned(turned, up) if turned else None


def right_stands(system, term):
    alphabet, width, goal = system
    lot = brute.term_lot(alphabet, term)
    return alphabet[term[0]][0] == width and lot is not None and all(brute.meets(p, q) for p in lot for q in goal)


def exchanged(term, new):
    """All terms that come when NEW is put in the place of a term in this one, once, with what was there."""
    told = [(new, term)]
    for at in range(1, len(term)):
        told += [(term[:at] + (inner,) + term[at + 1:], old) for inner, old in exchanged(term[at], new)]
    return told


def sizes_of_letters(alphabet):
    """How many letters terms may have so that they are soon told by trying everything."""
    return 6 if sum(len(downs) > 1 for _, downs, _ in alphabet) == 0 else 5


def random_system(chance, sound=True):
    alphabet = brute.random_alphabet(chance, 5, sound)
    width = chance.choice([up for up, _, _ in alphabet]) if chance.random() < 0.9 else 4
    goal = ()
    while not goal:
        goal = brute.random_lot(chance, width, 3)
    return alphabet, width, goal


class StateTests(TestCase):
    def one(self, alphabet):
        """The states of small terms by trying everything; all others have greater least terms."""
        most = sizes_of_letters(alphabet)
        terms = brute.all_terms(alphabet, most)[:250]
        states = {}
        for term in terms:
            states.setdefault(right_state(alphabet, term), term)
        told = all_states(alphabet)
        self.plain(told)
        last = (brute.size_of_term(terms[-1]), terms[-1]) if terms else (0, ())
        small = [row for row in told if (brute.size_of_term(row[2]), row[2]) <= last]
        self.assertEqual(small, [(up, lot, term) for (up, lot), term in states.items()])
        self.assertEqual(list(told[:len(small)]), small)
        self.assertLessEqual(len(told), 38)
        self.assertEqual(len(set(row[:2] for row in told)), len(told))
        order = [(brute.size_of_term(term), term) for _, _, term in told]
        self.assertEqual(order, sorted(order))
        for row in told:
            self.assertEqual(right_state(alphabet, row[2]), row[:2]) if brute.size_of_term(row[2]) < 7 else None
        for term in terms[::7] + terms[-3:]:
            self.check([row[:2] for row in told].index(right_state(alphabet, term)), state_of, alphabet, term)
        return told

    def test_some_alphabets(self):
        chance = random.Random(221)
        counts = []
        for at in range(150):
            counts.append(len(self.one(brute.random_alphabet(chance, 5, sound=at % 3 > 0))))
        self.assertGreater(max(counts), 5)
        self.assertIn(0, counts)

    def test_example(self):
        right = ((2, ((0, 0),), (0,)), (2, ((0, 1),), (2,)), (2, None, (1, (2,))))
        self.check(right, all_states, alphabet=A)
        self.check(0, state_of, alphabet=A, term=deep(1, 40, (0,)))
        self.check(2, state_of, A, deep(1, 40, (2,)))
        self.one(A)
        self.one(B)

    def test_closed_lots(self):
        # The lot of a state is closed, though that of its least term is not.
        lot = ((0, 0, 1), (0, 1, 2))[:1]
        self.check(((3, lot, (0,)),), all_states, ((3, (), lot),))
        some = ((0, 0, 1, 1), (0, 1, 1, 0))
        closed = brute.closed(some, 4)
        self.check(((4, closed, (0,)),), all_states, ((4, (), some),))
        # What nothing meets counts as barred.
        self.check(((2, None, (0,)),), all_states, ((2, (), ((0, 0), (0, 1))), (2, (), all_of(2))))
        self.check(((1, ((0,),), (0,)), (1, None, (2, (1,))), (2, None, (1,))),
                   lambda alphabet: tuple(sorted(all_states(alphabet), key=lambda row: (row[0], row[2]))),
                   ((1, (), ((0,),)), (2, (), all_of(2)), (1, (2,), ((0, 0, 1), (0, 1, 2)))))

    def test_without_terms(self):
        self.check((), all_states, NO_TERM)
        self.check(((), ()), least_table, (NO_TERM, 1, ((0,),)))
        self.refused(BadTerm, {"path": (0,)}, state_of, NO_TERM, (0, ()))

    def test_many_states(self):
        # Forks upon forks: one letter more, one closed lot more.
        chance = random.Random(222)
        most = 0
        for _ in range(60):
            downs = chance.choice(((3,), (2,), (1, 2), (2, 1)))
            letters = [brute.random_letter(chance, 3, ()), brute.random_letter(chance, 3, ())]
            letters += [brute.random_letter(chance, 3, (3,)), brute.random_letter(chance, 3, (3,))]
            letters += [brute.random_letter(chance, 2, ()), brute.random_letter(chance, 3, downs)]
            most = max(most, len(self.one(tuple(letters))))
        self.assertGreater(most, 8)

    def test_facts(self):
        chance = random.Random(223)
        for _ in range(40):
            rows = []
            for number in range(4):
                up = chance.choice((1, 2))
                downs = (chance.choice((1, 2)),) if number > 1 else ()
                rows.append((up, downs, brute.sound_piece(chance, up + sum(downs), 4)))
            alphabet = alphabet_of(tuple(rows))
            states = all_states(alphabet)
            for term in brute.all_terms(alphabet, 5)[:60]:
                lot = states[state_of(alphabet, term)][1]
                # With the lots of sound pieces None is the state of what is barred alone.
                self.assertEqual(lot is None, term_lot(alphabet, term) is None)

    def test_refused(self):
        for value in [*wrong_kinds(), 0, ()]:
            self.refused(BadLetter, {"number": None}, all_states, value)
            self.refused(BadLetter, {"number": None}, state_of, value, None)
        self.refused(BadLetter, {"number": 1}, all_states, (A[0], (2, (), ())))
        self.refused(BadLetter, {"number": 1}, state_of, (A[0], (2, (), ())), None)
        for value in [*wrong_kinds(), 0, (), (3,), (1,)]:
            self.refused(BadTerm, {"path": ()}, state_of, A, value)
        self.refused(BadTerm, {"path": (0,) * 40}, state_of, A, deep(1, 41, (0,)))


class TableTests(TestCase):
    def right_table(self, system):
        """The least table, by marking pairs of states that are told apart."""
        alphabet, _, _ = system
        states = all_states(alphabet)
        steps = {}
        for letter, (_, downs, _) in enumerate(alphabet):
            for inner in itertools.product(range(len(states)), repeat=len(downs)):
                if [states[one][0] for one in inner] == list(downs):
                    term = (letter, *[states[one][2] for one in inner])
                    steps[letter, inner] = state_of(alphabet, term)
        stands = [term_stands(system, term) for _, _, term in states]
        apart = {(one, two) for one, two in itertools.product(range(len(states)), repeat=2)
                 if states[one][0] != states[two][0] or stands[one] != stands[two]}
        size = -1
        while size != len(apart):
            size = len(apart)
            for letter, inner in steps:
                for at, one in enumerate(inner):
                    for two in range(len(states)):
                        if states[two][0] == states[one][0]:
                            other = inner[:at] + (two,) + inner[at + 1:]
                            if (steps[letter, inner], steps[letter, other]) in apart:
                                apart |= {(one, two), (two, one)}
        firsts = [one for one in range(len(states)) if all((one, two) in apart for two in range(one))]
        number = [[(one, first) in apart for first in firsts].index(False) for one in range(len(states))]
        rows = tuple((states[one][0], stands[one], states[one][2]) for one in firsts)
        told = {(letter, tuple(number[one] for one in inner), number[state]) for (letter, inner), state in steps.items()}
        return (rows, tuple(sorted(told))), number

    def one(self, system):
        told, number = self.right_table(system)
        self.check(told, least_table, system)
        alphabet = system[0]
        terms = brute.all_terms(alphabet, 4)[:40]
        for term in terms[::4]:
            self.check(number[state_of(alphabet, term)], class_of, system, term)
        return told, terms

    def test_some_systems(self):
        chance = random.Random(231)
        counts = []
        fewer = 0
        for at in range(150):
            system = random_system(chance, sound=at % 3 > 0)
            (rows, _), _ = self.one(system)
            counts.append(len(rows))
            fewer += len(rows) < len(all_states(system[0]))
        self.assertGreater(max(counts), 4)
        self.assertGreater(fewer, 30)

    def test_what_stands_at_the_other_bundle(self):
        # Two terms that are told apart just by what stands beside them.
        alphabet = ((3, (), ((0, 0, 1),)), (3, (), ((0, 0, 0),)), (1, (3, 2), ((0, 0, 1, 2, 2, 1),)),
                    (2, (1,), ((0, 0, 0),)), (2, (), ((0, 1),)), (2, (), ((0, 0), (0, 1))))
        ((rows, _), _) = self.one((alphabet, 2, ((0, 1),)))
        self.assertEqual(len(rows), 7)
        self.one((alphabet, 1, ((0,),)))

    def test_terms_that_go_for_one_another(self):
        # Terms of one class stand alike wherever they are put; those of two classes somewhere do not.
        chance = random.Random(232)
        parted = 0
        for at in range(20):
            system = random_system(chance, sound=at % 3 > 0)
            alphabet = system[0]
            terms = brute.all_terms(alphabet, 4)
            around = brute.all_terms(alphabet, 4)
            for _ in range(12):
                one, two = chance.choice(terms or [None]), chance.choice(terms or [None])
                if one is None or alphabet[one[0]][0] != alphabet[two[0]][0]:
                    continue
                same = class_of(system, one) == class_of(system, two)
                told = []
                for term in chance.sample(around, min(len(around), 15)):
                    for (with_one, old), (with_two, _) in zip(exchanged(term, one), exchanged(term, two)):
                        if alphabet[old[0]][0] == alphabet[two[0]][0]:
                            told.append(right_stands(system, with_one) == right_stands(system, with_two))
                if same:
                    self.assertNotIn(False, told)
                parted += not same and False in told
        self.assertGreater(parted, 3)

    def test_example(self):
        right = (((2, True, (0,)), (2, False, (2,))), ((0, (), 0), (1, (0,), 0), (1, (1,), 1), (2, (), 1)))
        self.check(right, least_table, system=(A, 2, ((0, 1),)))
        self.check(1, class_of, system=(A, 2, ((0, 1),)), term=(1, (1, (2,))))
        self.check(0, class_of, (A, 2, ((0, 1),)), (1, (0,)))
        # With another goal just (2,) stands; with another width nothing does.
        right = (((2, False, (0,)), (2, True, (2,))), ((0, (), 0), (1, (0,), 0), (1, (1,), 0), (2, (), 1)))
        self.check(right, least_table, (A, 2, ((0, 0),)))
        right = (((2, False, (0,)),), ((0, (), 0), (1, (0,), 0), (2, (), 0)))
        self.check(right, least_table, (A, 3, ((0, 0, 0),)))
        self.one((B, 1, ((0,),)))
        self.one((B, 2, ((0, 1),)))

    def test_facts(self):
        chance = random.Random(233)
        for at in range(60):
            system = random_system(chance, sound=at % 2 > 0)
            alphabet = system[0]
            rows, steps = least_table(system)
            table = {(letter, inner): one for letter, inner, one in steps}
            for term in brute.all_terms(alphabet, 4)[:40]:
                inner = tuple(class_of(system, one) for one in term[1:])
                number = class_of(system, term)
                self.assertEqual(table[term[0], inner], number)
                self.assertEqual(rows[number][:2], (alphabet[term[0]][0], term_stands(system, term)))
            order = [(brute.size_of_term(term), term) for _, _, term in rows]
            self.assertEqual(order, sorted(order))
            self.assertEqual([class_of(system, term) for _, _, term in rows], list(range(len(rows))))

    def test_refused(self):
        good = (A, 2, ((0, 1),))
        for call in (least_table, lambda system: class_of(system, None)):
            for value in [*wrong_kinds(), 0, (), good[:2], list(good)]:
                self.refused(BadLetter, {"number": None}, call, value)
            self.refused(BadLetter, {"number": 0}, call, (((2, (), ()),), None, None))
            for value in [*wrong_kinds(), 0, 6]:
                self.refused(BadNumber, {"value": value}, call, (A, value, None))
            self.refused(BadLot, {"word": "tuple"}, call, (A, 2, None))
            self.refused(BadLot, {"word": "parting"}, call, (A, 2, ((0,),)))
            self.refused(BadLot, {"word": "order"}, call, (A, 2, ((0, 1), (0, 0))))
            self.refused(BadLot, {"word": "empty"}, call, (A, 2, ()))
        for value in [*wrong_kinds(), 0, (), (3,), (1,)]:
            self.refused(BadTerm, {"path": ()}, class_of, good, value)
