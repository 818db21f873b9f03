"""Points 20 and 54: forms, their parts, webs, plain forms, steps and pieces; how many plain forms there are."""

import itertools
import random

from fittingdoors.errors import BadForm, BadName, BadNumber
from fittingdoors.formcounts import all_forms, form_count
from fittingdoors.forms import dual, form_piece, is_same, leaves, plain, step, web
from fittingdoors.pieces import plain_piece
from tests import brute
from tests.brute import GREAT, TestCase, all_forms_of, deep_form, knot_words, random_form, wrong_kinds

WORDS = ("turn", "left", "right", "pass")


def some_forms(seed, many, most=8):
    chance = random.Random(seed)
    for _ in range(many):
        doors = chance.randrange(1, most + 1)
        yield random_form(chance, chance.sample(range(doors), doors))


def right_web(form):
    words = knot_words(form)
    return tuple(int(words[one, two] == "both") for two in range(len(brute.doors_of(form))) for one in range(two))


def limbs(form, word):
    if isinstance(form, int) or form[0] != word:
        return [form]
    return limbs(form[1], word) + limbs(form[2], word)


def right_plain(form):
    if isinstance(form, int):
        return form
    rows = sorted([right_plain(limb) for limb in limbs(form, form[0])], key=lambda limb: min(brute.doors_of(limb)))
    told = rows[0]
    for row in rows[1:]:
        told = (form[0], told, row)
    return told


def with_wrong(form, path, wrong):
    if not path:
        return wrong
    return tuple(with_wrong(part, path[1:], wrong) if at == path[0] else part for at, part in enumerate(form))


def paths_of(form, path=()):
    if isinstance(form, int):
        return [path]
    return [path] + paths_of(form[1], path + (1,)) + paths_of(form[2], path + (2,))


class FormTests(TestCase):
    def one(self, form):
        self.check(tuple(brute.doors_of(form)), leaves, form)
        self.check(brute.dual(form), dual, form)
        self.check(right_plain(form), plain, form)
        self.check(right_web(form), web, form)
        self.assertEqual(form_piece(form), plain_piece(form_piece(form)))
        self.check(plain_piece(brute.form_piece(form, len(brute.doors_of(form)))), lambda one: self.ahead(one), form)

    def ahead(self, form):
        """The piece with its last knot in the place that the helper gives it."""
        doors, sorts, lines = form_piece(form)
        last = len(sorts) - 1
        names = {last: 0, -1: -1} | {knot: knot + 1 for knot in range(last)}
        rows = tuple(tuple((names[knot], place) for knot, place in line) for line in lines)
        return plain_piece((doors, (sorts[-1], *sorts[:-1]), rows))

    def test_all_forms_of_few_doors(self):
        for doors in (1, 2, 3):
            for form in all_forms_of(list(range(doors))):
                self.one(form)
        for form in all_forms_of([0, 1, 2, 3])[::7]:
            self.one(form)

    def test_some_forms(self):
        for form in some_forms(301, 200, 14):
            self.one(form)

    def test_most_doors(self):
        chance = random.Random(302)
        for _ in range(5):
            self.one(random_form(chance, chance.sample(range(40), 40)))
        for word, side in itertools.product(("both", "either"), (1, 2)):
            self.one(deep_form(40, word, side))

    def test_edges(self):
        self.check((0,), leaves, form=0)
        self.check((), web, form=0)
        self.check(0, plain, form=0)
        self.check(0, dual, form=0)
        self.check((1, ("either",), (((-1, 0), (0, 2)), ((0, 0), (0, 1)))), form_piece, form=0)
        form = ("both", 2, ("either", 1, 0))
        right = (3, ("both", "either", "either"), (((-1, 0), (1, 1)), ((-1, 1), (1, 0)), ((-1, 2), (0, 0)),
                                                   ((0, 1), (1, 2)), ((0, 2), (2, 2)), ((2, 0), (2, 1))))
        self.check(right, form_piece, form)
        self.check((0, 1, 1), web, form)
        self.check(("both", ("either", 0, 1), 2), plain, form)

    def test_pieces_are_sound(self):
        for form in some_forms(303, 40, 6):
            self.assertEqual(brute.lot(form_piece(form)), brute.form_lot(form))

    def test_same(self):
        forms = all_forms_of([0, 1, 2])
        for one, two in itertools.product(forms, repeat=2):
            self.check(right_web(one) == right_web(two), is_same, one, two)
        for one, two in zip(some_forms(304, 200, 5), some_forms(305, 200, 5)):
            self.check(right_plain(one) == right_plain(two), is_same, form=one, other=two)
        self.check(False, is_same, 0, ("both", 0, 1))
        self.check(False, is_same, ("both", 0, 1), 0)

    def test_facts_of_plain_forms(self):
        # What turn, left and right lead to is just what has the same plain form.
        for start in all_forms_of([0, 1, 2])[::3] + all_forms_of([0, 1, 2, 3])[::400]:
            reached = [start]
            for form in reached:
                reached += [to for _, word, to in brute.steps_of(form) if word != "pass" and to not in reached]
            doors = sorted(brute.doors_of(start))
            right = [form for form in all_forms_of(doors) if plain(form) == plain(start)]
            self.assertEqual(sorted(map(repr, reached)), sorted(map(repr, right)))

    def test_fact_of_webs(self):
        for doors in (4, 5):
            webs = {web(form) for form in all_forms(doors)}
            for bits in itertools.product((0, 1), repeat=doors * (doors - 1) // 2):
                told = {}
                pairs = [(one, two) for two in range(doors) for one in range(two)]
                for (one, two), bit in zip(pairs, bits):
                    told[one, two] = told[two, one] = bit
                has_way = any(told[a, b] and told[b, c] and told[c, d] and not told[a, c] + told[a, d] + told[b, d]
                              for a, b, c, d in itertools.permutations(range(doors), 4))
                self.assertEqual(bits in webs, not has_way)

    def test_wrong_parts(self):
        chance = random.Random(306)
        wrong = [*wrong_kinds(), (), ("both", 0), ("both", 0, 1, 2), ["both", 0, 1], ("BOTH", 0, 1), (0, 1), -1, 40,
                 GREAT, -GREAT, (0, 0, 1), (None, None, None), ("", 0, 1), (("both",), 0, 1)]
        for form in some_forms(307, 40):
            for path in paths_of(form):
                value = chance.choice(wrong)
                for call in (leaves, dual, plain, web, form_piece):
                    self.refused(BadForm, {"path": path}, call, with_wrong(form, path, value))
                self.refused(BadForm, {"path": path}, is_same, with_wrong(form, path, value), None)
                self.refused(BadForm, {"path": path}, is_same, form, with_wrong(form, path, value))
                self.refused(BadForm, {"path": path}, step, with_wrong(form, path, value), None, None)
        for value in wrong:
            self.refused(BadForm, {"path": ()}, leaves, value)

    def test_first_wrong_part(self):
        # A part ahead of what is in it, the left part whole ahead of the right one.
        self.refused(BadForm, {"path": ()}, plain, ("x", None, None))
        self.refused(BadForm, {"path": (1,)}, plain, ("both", None, None))
        self.refused(BadForm, {"path": (1, 2)}, plain, ("both", ("both", 0, 0), None))
        self.refused(BadForm, {"path": (2, 1, 2)}, plain, ("both", 0, ("both", ("either", 1, 0), 1)))
        self.refused(BadForm, {"path": (2,)}, plain, ("both", 3, 3))

    def test_doors_that_are_missing(self):
        for form in (1, 39, ("both", 0, 2), ("either", 1, 2), ("both", ("either", 5, 0), 1)):
            self.refused(BadForm, {"path": ()}, leaves, form)
        self.refused(BadForm, {"path": (2,)}, leaves, ("both", 5, 5))

    def test_one_door_too_many(self):
        def balanced(doors):
            if len(doors) == 1:
                return doors[0]
            half = len(doors) // 2
            return ("either", balanced(doors[:half]), balanced(doors[half:]))

        self.check(tuple(range(40)), leaves, balanced(list(range(40))))
        form = balanced(list(range(41)))
        path = [path for path in paths_of(form) if self.part(form, path) == 40]
        for call in (leaves, dual, plain, web, form_piece, lambda one: is_same(one, 0), lambda one: is_same(0, one)):
            self.refused(BadForm, {"path": path[0]}, call, form)

    def part(self, form, path):
        for place in path:
            form = form[place]
        return form

    def test_nesting(self):
        form = 5
        for _ in range(39):
            form = ("both", form, 7)
        self.refused(BadForm, {"path": (1,) * 37 + (2,)}, leaves, form)
        for side, end in itertools.product((1, 2), (0, None, ("both", 0, 1))):
            form = end
            for door in range(40):
                form = ("both", form, door) if side == 1 else ("both", door, form)
            # Of two parts that are too deep the left one is told.
            self.refused(BadForm, {"path": (side,) * 39 + (1,)}, leaves, form)
        # The deepest part is met first here, behind it a door that is there twice.
        form = deep_form(40)
        self.check(tuple(range(40)), leaves, form)
        self.refused(BadForm, {"path": (2,)}, leaves, ("both", form[1], 38))
        self.refused(BadForm, {"path": (1,) * 40}, leaves, ("both", form, 39))
        self.refused(BadForm, {"path": (2,) + (1,) * 39}, leaves, ("both", 39, form))


class StepTests(TestCase):
    def one(self, form):
        right = {(path, word): told for path, word, told in brute.steps_of(form)}
        for path in paths_of(form):
            for word in WORDS:
                if (path, word) in right:
                    self.check(right[path, word], step, form, path, word)
                else:
                    self.refused(BadForm, {"path": path}, step, form, path, word)
            if isinstance(self.part(form, path), int):
                for way in (path + (1,), path + (2, 1)):
                    self.refused(BadForm, {"path": way}, step, form, way, "turn")

    def part(self, form, path):
        for place in path:
            form = form[place]
        return form

    def test_all_forms_of_few_doors(self):
        for doors in (1, 2, 3):
            for form in all_forms_of(list(range(doors))):
                self.one(form)

    def test_some_forms(self):
        for form in some_forms(311, 60, 12):
            self.one(form)
        self.one(deep_form(40))
        self.one(deep_form(40, "either", 2))

    def test_left_and_right_undo_each_other(self):
        for form in some_forms(312, 60):
            for path, word, told in brute.steps_of(form):
                if word in ("left", "right"):
                    self.assertEqual(step(told, path, "left" if word == "right" else "right"), form)

    def test_examples(self):
        form = ("both", 0, ("either", 1, 2))
        self.check(("either", ("both", 0, 1), 2), step, form=form, path=(), word="pass")
        self.check(("both", 0, ("either", 2, 1)), step, form, (2,), "turn")
        self.refused(BadForm, {"path": ()}, step, ("either", 0, ("both", 1, 2)), (), "pass")
        self.refused(BadForm, {"path": ()}, step, ("both", ("either", 0, 1), 2), (), "pass")
        self.refused(BadForm, {"path": ()}, step, form, (), "left")

    def test_refused(self):
        form = ("both", 0, ("either", 1, 2))
        for word in [*wrong_kinds(), 0, (), "Turn", "pas", "turn ", ("turn",)]:
            self.refused(BadName, {"name": word}, step, form, None, word)
        for path in [*wrong_kinds(), 0, (0,), (3,), (True,), (-1,), ("1",), (2, 3), (2, (1,)), (1, 1), (GREAT,),
                     (2, 1, 1, 1), (2,) * 5000, [2]]:
            self.refused(BadForm, {"path": path}, step, form, path, "turn")


class CountTests(TestCase):
    def test_counts(self):
        right = (1, 2, 8, 52, 472, 5504, 78416, 1320064, 25637824, 564275648)
        for number, many in enumerate(right, 1):
            self.check(many, form_count, number)
        for number in range(11, 41):
            self.assertGreater(form_count(number), 20 * form_count(number - 1))

    def test_all_forms(self):
        for number in (1, 2, 3, 4):
            forms = {right_plain(form) for form in all_forms_of(list(range(number)))}
            self.check(tuple(sorted(forms, key=right_web)), all_forms, number=number)
        told = all_forms(5)
        self.plain(told)
        self.assertEqual(len(told), form_count(number=5))
        webs = [right_web(form) for form in told]
        self.assertEqual(webs, sorted(set(webs)))
        for form in told:
            self.assertEqual(form, right_plain(form))

    def test_refused(self):
        for number in [*wrong_kinds(), 0, -1, GREAT, (1,)]:
            self.refused(BadNumber, {"value": number}, form_count, number)
            self.refused(BadNumber, {"value": number}, all_forms, number)
        self.refused(BadNumber, {"value": 41}, form_count, 41)
        self.refused(BadNumber, {"value": 6}, all_forms, 6)
