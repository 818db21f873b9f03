"""Points 57 and 58: which forms are looser, steps that lead to them, and the forms between two lots."""

import itertools
import random

from fittingdoors.errors import BadForm, BadLot, BadNumber, TooGreat
from fittingdoors.formcounts import all_forms
from fittingdoors.formlots import form_place
from fittingdoors.forms import dual, form_piece, is_same, plain, step, web
from fittingdoors.inbetween import forms_between
from fittingdoors.joining import fit
from fittingdoors.loosening import is_looser, loosened
from fittingdoors.turning import closed, turned
from tests import brute
from tests.brute import GREAT, TestCase, all_forms_of, all_of, deep_form, random_form, wrong_kinds


def some_form(chance, doors):
    return random_form(chance, chance.sample(range(doors), doors))


def went_on(chance, form, many):
    """What comes of a form by so many steps, more often by a pass."""
    for _ in range(many):
        rows = brute.steps_of(form)
        passes = [row for row in rows if row[1] == "pass"]
        if passes and chance.random() < 0.5:
            rows = passes
        if rows:
            form = chance.choice(rows)[2]
    return form


def reached_from(form):
    """All that steps lead to."""
    told = [form]
    seen = {form}
    for one in told:
        for _, _, other in brute.steps_of(one):
            if other not in seen:
                seen.add(other)
                told.append(other)
    return seen


class LooserTests(TestCase):
    def right(self, form, other):
        doors = len(brute.doors_of(form))
        here = brute.turned(brute.form_lot(form), doors)
        return set(here) <= set(brute.turned(brute.form_lot(other), doors))

    def one(self, form, other):
        right = self.right(form, other)
        self.check(right, is_looser, form, other)
        self.told(form, other, right)
        return right

    def told(self, form, other, right):
        told = loosened(form, other)
        self.plain(told)
        self.assertIs(type(told), tuple)
        if right:
            word, steps = told
            self.assertEqual(word, "steps")
            self.assertLessEqual(len(steps), 20000)
            for path, name in steps:
                form = step(form, path, name)
            self.assertEqual(form, other)
            return len(steps)
        word, one, two = told
        self.assertEqual(word, "apart")
        self.assertIsNotNone(form_place(brute.dual(form), one))
        self.assertIsNotNone(form_place(other, two))
        self.assertFalse(brute.in_tree(one, two))
        return 0

    def test_forms_of_few_doors(self):
        for doors in (1, 2):
            for form, other in itertools.product(all_forms_of(list(range(doors))), repeat=2):
                self.one(form, other)
        forms = all_forms_of([0, 1, 2])
        for form, other in itertools.product(forms[::3], forms):
            self.one(form, other)

    def test_plain_forms(self):
        forms = all_forms(4)
        looser = 0
        for form, other in itertools.product(forms, forms):
            looser += self.one(form, other)
        self.assertGreater(looser, 150)

    def test_steps_lead_to_all_looser_forms(self):
        chance = random.Random(341)
        forms = all_forms_of([0, 1, 2])
        for form in forms:
            reached = reached_from(form)
            for other in forms:
                self.assertEqual(is_looser(form, other), other in reached)
        forms = all_forms_of([0, 1, 2, 3])
        for form in chance.sample(forms, 12):
            reached = reached_from(form)
            for other in chance.sample(forms, 60) + chance.sample(sorted(reached, key=repr), min(20, len(reached))):
                self.assertEqual(is_looser(form, other), other in reached)

    def test_some_forms(self):
        chance = random.Random(342)
        most = 0
        for _ in range(250):
            doors = chance.randrange(5, 9)
            form = some_form(chance, doors)
            other = went_on(chance, form, chance.randrange(120))
            self.check(True, is_looser, form, other)
            most = max(most, self.told(form, other, True))
            third = some_form(chance, doors)
            if doors < 6:
                self.one(form, third)
            else:
                self.told(form, third, is_looser(form, third))
        self.assertGreater(most, 50)

    def test_far_ways(self):
        # Forms with eight doors between which many passes lie.
        form = ("both", 7, ("both", 6, ("both", 5, ("both", 4, ("either", 3, ("either", 2, ("either", 1, 0)))))))
        for other in (went_on(random.Random(343), form, 3000), went_on(random.Random(344), form, 5000)):
            self.assertGreater(self.told(form, other, True), 20)

    def test_fact_of_fitting(self):
        chance = random.Random(345)
        for doors in [chance.randrange(1, 13) for _ in range(60)] + [40, 40]:
            form = some_form(chance, doors)
            for other in (some_form(chance, doors), went_on(chance, form, 20)):
                right = fit(form_piece(dual(form)), form_piece(other))
                self.check(right, is_looser, form=form, other=other)

    def test_fact_of_passes(self):
        # A pass changes just the knots of the doors of two parts, and what it leads to is not led back.
        chance = random.Random(346)
        for _ in range(60):
            form = some_form(chance, chance.randrange(3, 9))
            for path, word, other in brute.steps_of(form):
                if word == "pass":
                    part = form
                    for place in path:
                        part = part[place]
                    _, one, (_, _, two) = part
                    pairs = {tuple(sorted(pair)) for pair in itertools.product(brute.doors_of(one), brute.doors_of(two))}
                    words = brute.knot_words(form)
                    for pair, told in brute.knot_words(other).items():
                        self.assertEqual(told, "either" if pair in pairs else words[pair])
                    self.assertTrue(is_looser(form, other))
                    self.assertFalse(is_looser(other, form))

    def test_both_ways(self):
        chance = random.Random(347)
        for _ in range(150):
            doors = chance.randrange(1, 6)
            form, other = some_form(chance, doors), some_form(chance, doors)
            same = is_looser(form, other) and is_looser(other, form)
            self.assertEqual(same, is_same(form, other))

    def test_edges(self):
        self.check(True, is_looser, 0, 0)
        self.check(("steps", ()), loosened, form=0, other=0)
        self.check(("steps", ()), loosened, ("both", 0, 1), ("both", 0, 1))
        self.check(("steps", (((), "turn"),)), loosened, ("both", 0, 1), ("both", 1, 0))
        self.check(("apart", (0, 1), (0, 1)), loosened, ("both", 0, 1), ("either", 0, 1))
        self.check(True, is_looser, deep_form(40), deep_form(40, side=2))
        self.check(False, is_looser, deep_form(40), deep_form(40, "either"))
        self.check(False, is_looser, deep_form(40, "either"), deep_form(40))
        self.assertEqual(loosened(deep_form(8), deep_form(8, side=2))[0], "steps")
        self.refused(TooGreat, {"most": 8}, loosened, deep_form(9), deep_form(9))
        self.refused(TooGreat, {"most": 8}, loosened, deep_form(40), deep_form(40, "either"))

    def test_refused(self):
        good = ("both", 0, 1)
        for call in (is_looser, loosened):
            for value in [*wrong_kinds(), (), 1, ("both", 0)]:
                self.refused(BadForm, {"path": ()}, call, value, None)
                self.refused(BadForm, {"path": ()}, call, good, value)
            for value in (None, good, 0):
                self.refused(BadForm, {"path": (2,)}, call, ("both", 0, 0), value)
            self.refused(BadNumber, {"value": 1}, call, good, 0)
            self.refused(BadNumber, {"value": 2}, call, 0, good)
            self.refused(BadNumber, {"value": 40}, call, deep_form(9), deep_form(40))
            self.refused(BadNumber, {"value": 9}, call, deep_form(40), deep_form(9))


class BetweenTests(TestCase):
    def right(self, lot, other, doors):
        told = []
        for form in all_forms(doors):
            guards = brute.turned(brute.form_lot(form), doors)
            if set(lot) <= set(brute.turned(guards, doors)) and set(other) <= set(guards):
                told.append(form)
        return tuple(told)

    def one(self, lot, other, doors):
        right = self.right(lot, other, doors)
        self.check(right, forms_between, lot, other, doors)
        if right:
            self.assertTrue(all(brute.meets(one, two) for one in lot for two in other))
        return len(right)

    def test_all_lots_of_few_doors(self):
        for doors in (1, 2):
            for lot, other in itertools.product(brute.lots_of(doors), repeat=2):
                self.one(lot, other, doors)
        lots = brute.lots_of(3)
        for lot, other in itertools.product(lots, lots[::2]):
            self.one(lot, other, 3)

    def test_some_lots(self):
        chance = random.Random(351)
        counts = []
        for _ in range(120):
            doors = chance.choice((4, 4, 4, 5)) if len(counts) % 10 == 0 else 4
            lot = brute.random_lot(chance, doors)
            other = turned(lot, doors) if chance.random() < 0.7 else brute.random_lot(chance, doors)
            other = tuple(row for row in other if chance.random() < 0.4)
            counts.append(self.one(lot, other, doors))
        self.assertIn(0, counts)
        self.assertGreater(max(counts), 5)

    def test_lots_of_forms(self):
        chance = random.Random(352)
        for _ in range(30):
            doors = chance.randrange(1, 6)
            form = some_form(chance, doors)
            lot = brute.form_lot(form)
            self.check((plain(form),), forms_between, lot, turned(lot, doors), doors)
            self.check((plain(form),), forms_between, closed(lot, doors), brute.form_lot(brute.dual(form)), doors)

    def test_edges(self):
        self.check((0,), forms_between, lot=(), other=(), number=1)
        self.check((0,), forms_between, ((0,),), ((0,),), 1)
        self.check((("either", 0, 1), ("both", 0, 1)), forms_between, (), (), 2)
        self.check((("both", 0, 1),), forms_between, ((0, 0),), (), 2)
        self.check((("either", 0, 1),), forms_between, (), ((0, 0),), 2)
        self.check((), forms_between, ((0, 0),), ((0, 0),), 2)
        self.check(all_forms(5), forms_between, (), (), 5)
        self.check((), forms_between, all_of(5), (), 5)
        self.check((), forms_between, (), all_of(5), 5)
        lot = ((0, 0, 1, 1), (0, 1, 1, 0))
        other = turned(lot, 4)
        self.assertEqual(other, ((0, 1, 0, 2), (0, 1, 2, 1)))
        self.check((), forms_between, lot, other, 4)

    def test_order(self):
        told = forms_between((), ((0, 1, 0, 2, 3),), 5)
        webs = [web(form) for form in told]
        self.assertEqual(webs, sorted(webs))
        self.assertGreater(len(webs), 20)

    def test_refused(self):
        for number in [*wrong_kinds(), 0, 6, GREAT]:
            self.refused(BadNumber, {"value": number}, forms_between, None, None, number)
        for lot in wrong_kinds():
            self.refused(BadLot, {"word": "tuple"}, forms_between, lot, None, 3)
            self.refused(BadLot, {"word": "tuple"}, forms_between, (), lot, 3)
        self.refused(BadLot, {"word": "parting"}, forms_between, ((0,),), None, 2)
        self.refused(BadLot, {"word": "order"}, forms_between, (), ((0, 1), (0, 0)), 2)
