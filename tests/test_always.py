"""Points 52 and 53: what is so for all terms of a system, systems and letters compared, terms that stand counted."""

import itertools
import random

from fittingdoors.always import all_closers, greatest_standing, least_fallen, least_standing
from fittingdoors.compared import letters_alike, parted_by
from fittingdoors.counted import standing_counted, standing_place, standing_term
from fittingdoors.errors import BadLetter, BadLot, BadNumber, BadTerm, TooGreat
from fittingdoors.states import all_states
from fittingdoors.tables import least_table
from fittingdoors.terms import term_stands
from tests import brute
from tests.brute import GREAT, TestCase, all_of, all_terms, size_of_term, wrong_kinds
from tests.test_letters import A, B, deep
from tests.test_states import NO_TERM, random_system, right_stands

GOOD = (A, 2, ((0, 1),))
# Terms of one width that fork, all of which stand.
FORKS = ((1, (), ((0,),)), (1, (1, 1), ((0, 0, 0),)))
WIDE = ((2, (), ((0, 0),)), (2, (), ((0, 1),)), (2, (1, 1), ((0, 0, 0, 1), (0, 1, 0, 1))), (1, (), ((0,),)))


def stood(system, most):
    """All terms with at most so many letters, each with whether it stands."""
    return [(term, right_stands(system, term)) for term in all_terms(system[0], most)[:300]]


def order(term):
    return size_of_term(term), term


def systems(seed, many):
    chance = random.Random(seed)
    for at in range(many):
        yield random_system(chance, sound=at % 3 > 0)


def refuse_systems(case, call):
    for value in [*wrong_kinds(), 0, (), GOOD[:2], list(GOOD)]:
        case.refused(BadLetter, {"number": None}, call, value)
    case.refused(BadLetter, {"number": 0}, call, (((2, (), ()),), None, None))
    case.refused(BadLetter, {"number": None}, call, ((), None, None))
    for value in [*wrong_kinds(), 0, 6]:
        case.refused(BadNumber, {"value": value}, call, (A, value, None))
    case.refused(BadLot, {"word": "tuple"}, call, (A, 2, None))
    case.refused(BadLot, {"word": "parting"}, call, (A, 2, ((0,),)))
    case.refused(BadLot, {"word": "order"}, call, (A, 2, ((0, 1), (0, 0))))
    case.refused(BadLot, {"word": "empty"}, call, (A, 2, ()))


class AlwaysTests(TestCase):
    def one(self, system):
        alphabet, width, goal = system
        told = least_standing(system), least_fallen(system)
        terms = [(term, stands) for term, stands in stood(system, 5) if alphabet[term[0]][0] == width]
        for told_term, wanted in zip(told, (True, False)):
            self.plain(told_term)
            first = [term for term, stands in terms if stands == wanted][:1]
            if first:
                self.assertEqual(told_term, first[0])
            elif told_term is not None:
                self.assertGreater(order(told_term), order(terms[-1][0]) if terms else (0,))
                self.assertEqual(alphabet[told_term[0]][0], width)
                self.assertEqual(term_stands(system, told_term), wanted)
        closers = all_closers(alphabet, width)
        self.assertEqual(told[1] is None, set(goal) <= set(closers))
        return told

    def test_some_systems(self):
        kinds = {(one is None, two is None) for one, two in map(self.one, systems(401, 200))}
        self.assertEqual(len(kinds), 4)

    def test_least_of_many_letters(self):
        # Terms of width 1 hold one of width 2, this one of width 3, and this two of width 1.
        alphabet = ((1, (2,), ((0, 0, 1),)), (2, (3,), ((0, 1, 0, 1, 1),)), (3, (), ((0, 1, 1),)), (3, (), ((0, 0, 1),)))
        for goal in (((0, 0),), ((0, 1),)):
            self.one((alphabet, 2, goal))
        self.check((0, (1, (3,))), least_standing, (alphabet, 1, ((0,),)))
        self.check((0, (1, (2,))), least_fallen, (alphabet, 1, ((0,),)))

    def test_examples(self):
        self.check((0,), least_standing, system=GOOD)
        self.check((2,), least_fallen, system=GOOD)
        self.check((2,), least_standing, (A, 2, ((0, 0),)))
        self.check((0,), least_fallen, (A, 2, ((0, 0),)))
        self.check(None, least_standing, (A, 2, all_of(2)))
        self.check((0, (2,)), least_fallen, ((A[1], A[1], A[2]), 2, ((0, 0),)))
        self.check(None, least_fallen, (A[:2], 2, ((0, 1),)))

    def test_without_terms(self):
        for width in range(1, 6):
            goal = ((0,) * width,)
            for system in ((NO_TERM, width, goal), (A[1:2], width, goal)):
                self.check(None, least_standing, system)
                self.check(None, least_fallen, system)
                self.check(0, greatest_standing, system)
                self.check(all_of(width), all_closers, system[0], width)
        self.check(None, least_fallen, (A, 3, ((0, 0, 0),)))

    def test_closers(self):
        for alphabet, width, _ in systems(402, 120):
            told = all_closers(alphabet, width)
            right = all_of(width)
            for up, lot, _ in all_states(alphabet):
                if up == width:
                    right = () if lot is None else tuple(row for row in right if row in brute.turned(lot, width))
            self.check(right, all_closers, alphabet, width)
            for term in all_terms(alphabet, 4)[:60]:
                if alphabet[term[0]][0] == width:
                    lot = brute.term_lot(alphabet, term)
                    self.assertTrue(lot is not None or not told)
                    self.assertTrue(all(brute.meets(row, one) for row in told for one in lot or ()))
        self.check((), all_closers, alphabet=A, width=2)
        self.check(((0, 1),), all_closers, A[:2], 2)
        self.check((), all_closers, ((2, (), all_of(2)),), 2)
        self.check(brute.turned(((0, 0, 1, 1, 2),), 5), all_closers, ((5, (), ((0, 0, 1, 1, 2),)),), 5)

    def test_greatest(self):
        counts = []
        for system in systems(403, 150):
            told = greatest_standing(system)
            counts.append(told)
            sizes = [size_of_term(term) for term, stands in stood(system, 5) if stands]
            if told is not None:
                self.assertLessEqual(max(sizes, default=0), told)
                if told == 0:
                    self.assertIsNone(least_standing(system))
                elif told <= 5 and len(all_terms(system[0], 5)) < 300:
                    self.assertEqual(max(sizes), told)
                if 0 < told <= 40:
                    self.assertGreater(standing_counted(system, told), 0)
                for size in (told + 1, told + 2, 40):
                    if told < size <= 40:
                        self.check(0, standing_counted, system, size)
            else:
                # There are few states: greater and greater terms have some with 11 to 40 letters.
                self.assertTrue(any(standing_counted(system, size) for size in range(11, 41)))
        self.assertEqual({one if one is None else one > 1 for one in counts}, {None, True, False})

    def test_greatest_examples(self):
        self.check(None, greatest_standing, system=GOOD)
        self.check(1, greatest_standing, (A, 2, ((0, 0),)))
        self.check(0, greatest_standing, (A, 2, all_of(2)))
        # What can't stand may grow; what stands does not.
        self.check(1, greatest_standing, ((*A[:2], (1, (), ((0,),))), 1, ((0,),)))
        # Letters that stand beneath others, but not within themselves.
        alphabet = ((1, (), ((0,),)), (2, (1, 1), ((0, 0, 0, 0),)), (3, (2, 1), ((0, 1, 2, 0, 1, 2),)))
        self.check(5, greatest_standing, (alphabet, 3, ((0, 1, 1),)))
        self.check(3, greatest_standing, (alphabet, 2, ((0, 1),)))
        self.check(0, greatest_standing, (alphabet, 2, ((0, 0),)))
        self.check(None, greatest_standing, (FORKS, 1, ((0,),)))
        self.check(None, greatest_standing, ((*alphabet, (1, (1,), ((0, 0),))), 3, ((0, 1, 1),)))

    def test_refused(self):
        for call in (least_standing, least_fallen, greatest_standing):
            refuse_systems(self, call)
        for value in [*wrong_kinds(), 0, ()]:
            self.refused(BadLetter, {"number": None}, all_closers, value, None)
            self.refused(BadNumber, {"value": value}, all_closers, A, value)
        self.refused(BadLetter, {"number": 1}, all_closers, (A[0], None), 0)
        for width in (-1, 6, GREAT):
            self.refused(BadNumber, {"value": width}, all_closers, A, width)


def other_lots(chance, alphabet, many):
    """The alphabet with other lots for so many letters."""
    told = list(alphabet)
    rows = sorted(chance.sample(range(len(told)), len(told)), key=lambda at: len(told[at][1]) == 0)
    for at in rows[:many]:
        up, downs, _ = told[at]
        told[at] = brute.random_letter(chance, up, downs, chance.random() < 0.7)
    return tuple(told)


class ComparedTests(TestCase):
    def one(self, system, other):
        told = parted_by(system, other)
        self.plain(told)
        terms = [(term, stands != right_stands(other, term)) for term, stands in stood(system, 5)]
        first = [term for term, is_other in terms if is_other][:1]
        if first:
            self.assertEqual(told, first[0])
        elif told is not None:
            self.assertGreater(order(told), order(terms[-1][0]))
            self.assertNotEqual(term_stands(system, told), term_stands(other, told))
        return told

    def test_some_pairs(self):
        chance = random.Random(411)
        found = []
        for alphabet, width, goal in systems(412, 150):
            other_goal = goal if chance.random() < 0.85 else brute.random_lot(chance, width, 3) or goal
            other = (other_lots(chance, alphabet, chance.randrange(3)), width, other_goal)
            told = self.one((alphabet, width, goal), other)
            self.assertEqual(told, parted_by(other, (alphabet, width, goal)))
            found.append(None if told is None else size_of_term(told))
        self.assertGreater(found.count(None), 20)
        self.assertGreater(len([size for size in found if size is not None and size > 1]), 2)

    def test_like_systems(self):
        for alphabet, width, goal in systems(413, 40):
            self.check(None, parted_by, (alphabet, width, goal), (alphabet, width, goal))
            full = tuple((up, downs, brute.closed(lot, up + sum(downs))) if up + sum(downs) < 6 else (up, downs, lot)
                         for up, downs, lot in alphabet)
            self.check(None, parted_by, (alphabet, width, goal), (full, width, goal))
            self.check(None, parted_by, (full, width, brute.closed(goal, width)), (alphabet, width, goal))

    def test_examples(self):
        self.check((0,), parted_by, system=GOOD, other=(A, 2, ((0, 0),)))
        self.check(None, parted_by, (A, 2, ((0, 0), (0, 1))), (A, 2, ((0, 0), (0, 1))))
        self.check(None, parted_by, (A, 3, ((0, 0, 0),)), (A, 3, ((0, 1, 2),)))
        self.check(None, parted_by, (NO_TERM, 1, ((0,),)), (NO_TERM, 1, ((0,),)))
        # The letter (1, ..) alone is another one: no term of one letter parts them.
        other = (A[0], (2, (2,), ((0, 0, 0, 0),)), A[2])
        self.check((1, (0,)), parted_by, GOOD, (other, 2, ((0, 1),)))

    def test_of_one_build(self):
        self.refused(BadLetter, {"number": None}, parted_by, GOOD, (A, 1, ((0,),)))
        self.refused(BadLetter, {"number": None}, parted_by, GOOD, (A[:2], 2, ((0, 1),)))
        self.refused(BadLetter, {"number": None}, parted_by, GOOD, (B, 1, ((0,),)))
        self.refused(BadLetter, {"number": 1}, parted_by, GOOD, ((A[0], A[0], (1, (), ((0,),))), 2, ((0, 1),)))
        self.refused(BadLetter, {"number": 2}, parted_by, GOOD, ((A[0], A[1], (1, (), ((0,),))), 2, ((0, 1),)))
        self.refused(BadLetter, {"number": 0}, parted_by, GOOD, ((A[1], A[1], A[2]), 2, ((0, 1),)))
        # Behind the errors of both.
        self.refused(BadNumber, {"value": 6}, parted_by, GOOD, (A[:2], 6, None))
        self.refused(BadLot, {"word": "empty"}, parted_by, GOOD, (A[:2], 2, ()))

    def right_alike(self, system):
        """For each two letters whether some small term tells them apart."""
        alphabet = system[0]
        apart = set()
        for term in all_terms(alphabet, 4)[:80]:
            stands = right_stands(system, term)
            for letter, other in self.exchanged(alphabet, term):
                if right_stands(system, other) != stands:
                    apart.add(letter)
        return apart

    def exchanged(self, alphabet, term):
        """All terms with one letter exchanged for another one with the same bundles, with both letters."""
        told = [((term[0], other), (other, *term[1:])) for other, row in enumerate(alphabet)
                if row[:2] == alphabet[term[0]][:2]]
        for at in range(1, len(term)):
            told += [(pair, term[:at] + (inner,) + term[at + 1:]) for pair, inner in self.exchanged(alphabet, term[at])]
        return told

    def test_letters(self):
        chance = random.Random(414)
        alike = 0
        found = 0
        for alphabet, width, goal in systems(415, 60):
            # Some letters more that have the bundles of others.
            rows = list(alphabet)
            for _ in range(chance.randrange(1, 4)):
                up, downs, _ = chance.choice(alphabet)
                if len(rows) < 6:
                    rows.append(brute.random_letter(chance, up, downs, chance.random() < 0.7))
            chance.shuffle(rows)
            system = (tuple(rows), width, goal)
            told = letters_alike(system)
            self.plain(told)
            apart = self.right_alike(system)
            for one, two in itertools.combinations(range(len(rows)), 2):
                if rows[one][:2] != rows[two][:2]:
                    self.assertNotEqual(told[one], told[two])
                elif told[one] == told[two]:
                    alike += 1
                    self.assertNotIn((one, two), apart)
                else:
                    found += (one, two) in apart
            for one, first in enumerate(told):
                self.assertLessEqual(first, one)
                self.assertEqual(told[first], first)
            # By the systems in which the one has the lot of the other everywhere.
            for one, first in enumerate(told):
                if first != one:
                    other = (tuple(rows[:one] + [rows[first]] + rows[one + 1:]), width, goal)
                    self.check(None, parted_by, system, other)
        self.assertGreater(alike, 10)
        self.assertGreater(found, 10)

    def test_letters_by_steps(self):
        for system in systems(416, 60):
            rows, steps = least_table(system)
            told = letters_alike(system)
            table = {}
            for letter, inner, one in steps:
                table.setdefault(letter, {})[inner] = one
            for letter, first in enumerate(told):
                right = [one for one, row in enumerate(system[0]) if row[:2] == system[0][letter][:2]
                         and table.get(one) == table.get(letter)]
                self.assertEqual(first, right[0])

    def test_letters_examples(self):
        self.check((0, 1, 2), letters_alike, system=GOOD)
        self.check((0, 1, 0), letters_alike, (A, 3, ((0, 0, 0),)))
        self.check((0, 1), letters_alike, (NO_TERM, 1, ((0,),)))
        self.check((0, 1, 0), letters_alike, ((*NO_TERM, NO_TERM[0]), 1, ((0,),)))
        # Letters that no term has are alike, whatever their lots.
        self.check((0, 0), letters_alike, (((3, (2,), ((0, 0, 0, 0, 0),)), (3, (2,), all_of(5))), 3, ((0, 1, 2),)))
        # Lots with one closed lot.
        some = ((0, 0, 1, 1), (0, 1, 1, 0))
        alphabet = ((4, (), some), (4, (), ((0, 1, 1, 1),)), (4, (), brute.closed(some, 4)))
        for goal in (((0, 1, 0, 2),), ((0, 1, 2, 3),)):
            self.assertEqual(letters_alike((alphabet, 4, goal))[2], 0)

    def test_refused(self):
        refuse_systems(self, letters_alike)
        refuse_systems(self, lambda value: parted_by(value, None))
        refuse_systems(self, lambda value: parted_by(GOOD, value))


class CountedTests(TestCase):
    def one(self, system, most):
        terms = all_terms(system[0], most)
        for size in range(1, most + 1):
            right = [term for term in terms if size_of_term(term) == size and term_stands(system, term)]
            self.check(len(right), standing_counted, system, size)
            for place, term in list(enumerate(right))[:30]:
                self.check(term, standing_term, system, size, place)
                self.check(place, standing_place, system, term)
            for place in (-1, len(right), GREAT):
                self.refused(BadNumber, {"value": place}, standing_term, system, size, place)
        for term in terms[:60]:
            if not term_stands(system, term):
                self.check(None, standing_place, system, term)
        return len(terms)

    def test_some_systems(self):
        for system in systems(421, 60):
            self.one(system, 4)

    def test_forks(self):
        system = (FORKS, 1, ((0,),))
        self.one(system, 7)
        for size, many in ((1, 1), (2, 0), (3, 1), (5, 2), (7, 5), (9, 14), (38, 0), (39, 1767263190), (40, 0)):
            self.check(many, standing_counted, system, size)
        self.one(((*FORKS, (1, (1,), ((0, 0),))), 1, ((0,),)), 5)
        self.one(((*FORKS, (1, (1,), ((0, 0),)), (1, (1, 1), ((0, 0, 1),))), 1, ((0,),)), 4)
        for goal in (((0, 0),), ((0, 1),)):
            self.one((WIDE, 2, goal), 4)

    def test_great_terms(self):
        chance = random.Random(422)
        seen = 0
        for system in systems(423, 60):
            for size in (39, 40):
                many = standing_counted(system, size)
                if many:
                    seen += 1
                    last = ()
                    for place in sorted({0, many - 1, chance.randrange(many), chance.randrange(many)}):
                        term = standing_term(system, size, place)
                        self.assertEqual(size_of_term(term), size)
                        self.assertGreater(term, last)
                        last = term
                        # At most 40 terms within one another, as terms of 40 letters have.
                        self.check(True, term_stands, system, term)
                        self.check(place, standing_place, system, term)
                self.refused(BadNumber, {"value": many}, standing_term, system, size, many)
        self.assertGreater(seen, 5)

    def test_edges(self):
        self.check(1, standing_counted, system=GOOD, number=40)
        self.check(deep(1, 40, (0,)), standing_term, system=GOOD, number=40, place=0)
        self.check(0, standing_place, system=GOOD, term=deep(1, 40, (0,)))
        self.check(None, standing_place, GOOD, deep(1, 40, (2,)))
        self.check(0, standing_counted, (A, 3, ((0, 0, 0),)), 1)
        self.check(None, standing_place, (A, 3, ((0, 0, 0),)), (0,))
        self.check(0, standing_counted, (NO_TERM, 1, ((0,),)), 40)
        self.check(0, standing_counted, (A, 2, all_of(2)), 7)
        self.refused(BadNumber, {"value": 0}, standing_term, (A, 2, all_of(2)), 7, 0)

    def test_more_than_forty_letters(self):
        system = (FORKS, 1, ((0,),))
        term = (0,)
        for _ in range(19):
            term = (1, term, (0,))
        self.assertEqual(size_of_term(term), 39)
        # All else stands ahead of what forks at its left side alone.
        self.check(1767263189, standing_place, system, term)
        self.refused(TooGreat, {"most": 40}, standing_place, system, (1, term, (0,)))
        self.refused(TooGreat, {"most": 40}, standing_place, (FORKS, 2, ((0, 0),)), (1, term, (0,)))
        self.refused(BadTerm, {"path": (1,)}, standing_place, system, (1, term, (3,)))
        great = (0,)
        for _ in range(7):
            great = (1, great, great)
        self.refused(BadTerm, {"path": None}, standing_place, system, great)

    def test_refused(self):
        refuse_systems(self, lambda value: standing_counted(value, None))
        refuse_systems(self, lambda value: standing_term(value, None, None))
        refuse_systems(self, lambda value: standing_place(value, None))
        for number in [*wrong_kinds(), 0, -1, 41, GREAT, (1,)]:
            self.refused(BadNumber, {"value": number}, standing_counted, GOOD, number)
            self.refused(BadNumber, {"value": number}, standing_term, GOOD, number, None)
        for place in [*wrong_kinds(), -1, 1, GREAT, (0,)]:
            self.refused(BadNumber, {"value": place}, standing_term, GOOD, 3, place)
        for term in [*wrong_kinds(), 0, (), (3,), (1,)]:
            self.refused(BadTerm, {"path": ()}, standing_place, GOOD, term)
        self.refused(BadTerm, {"path": (0,) * 40}, standing_place, GOOD, deep(1, 41, (0,)))
