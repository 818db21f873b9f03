"""Point 55: lots of forms by places; point 56: forms told back from lots."""

import itertools
import random

from fittingdoors.errors import BadForm, BadLot, BadNumber, BadParting
from fittingdoors.formlots import form_lot_size, form_parting, form_place, unmet
from fittingdoors.forms import form_piece, plain
from fittingdoors.lotting import lot_of
from fittingdoors.settings import left_by
from fittingdoors.toldback import form_alike, form_of_lot
from tests import brute
from tests.brute import GREAT, TestCase, all_forms_of, all_of, deep_form, random_form, wrong_kinds

WAY = ((0, 0, 1, 1), (0, 1, 1, 2))


class PlaceTests(TestCase):
    def one(self, form):
        lot = brute.form_lot(form)
        doors = len(brute.doors_of(form))
        self.check(len(lot), form_lot_size, form)
        for place, row in enumerate(lot):
            self.check(row, form_parting, form, place)
            self.check(place, form_place, form, row)
        for place in (-1, len(lot), len(lot) + 1, GREAT):
            self.refused(BadNumber, {"value": place}, form_parting, form, place)
        for row in all_of(doors)[::1 if doors < 5 else 5]:
            if row not in lot:
                self.check(None, form_place, form, row)
            self.unmet_one(form, row, lot)

    def unmet_one(self, form, row, lot):
        told = unmet(form, row)
        self.plain(told)
        if told is None:
            self.assertTrue(all(brute.meets(row, other) for other in lot))
        else:
            self.assertIn(told, lot)
            self.assertFalse(brute.meets(row, told))

    def test_all_forms_of_few_doors(self):
        for doors in (1, 2, 3):
            for form in all_forms_of(list(range(doors))):
                self.one(form)
        for form in all_forms_of([0, 1, 2, 3])[::9]:
            self.one(form)

    def test_some_forms(self):
        chance = random.Random(321)
        for doors in (5, 6, 6, 6) * 4:
            self.one(random_form(chance, chance.sample(range(doors), doors)))

    def test_by_settings(self):
        # The lot by places and that of the piece by all of its settings.
        chance = random.Random(322)
        for _ in range(60):
            doors = chance.randrange(1, 7)
            form = random_form(chance, chance.sample(range(doors), doors))
            lot = lot_of(form_piece(form))
            self.assertEqual(tuple(form_parting(form, place) for place in range(form_lot_size(form))), lot)

    def test_many_doors(self):
        chance = random.Random(323)
        forms = [random_form(chance, chance.sample(range(40), 40)) for _ in range(15)]
        forms += [deep_form(40, word, side) for word in ("both", "either") for side in (1, 2)]
        for form in forms:
            size = form_lot_size(form)
            piece = form_piece(form)
            last = ()
            for place in sorted({0, size - 1, *[chance.randrange(size) for _ in range(3)]}):
                row = form_parting(form, place)
                self.assertGreater(row, last)
                last = row
                self.check(place, form_place, form, row)
            # What settings leave is in the lot, and what comes of two doors exchanged is where it says.
            for _ in range(3):
                row = left_by(piece, tuple(chance.randrange(2) for _ in range(piece[1].count("either"))))
                place = form_place(form, row)
                self.check(row, form_parting, form, place)
                one, two = chance.sample(range(40), 2)
                other = list(row)
                other[one], other[two] = other[two], other[one]
                other = brute.parting(other)
                place = form_place(form, other)
                if place is not None:
                    self.check(other, form_parting, form, place)
            for bad in (-1, size):
                self.refused(BadNumber, {"value": bad}, form_parting, form, bad)

    def test_unmet_of_many_doors(self):
        chance = random.Random(324)
        met = 0
        for _ in range(20):
            form = random_form(chance, chance.sample(range(40), 40))
            against = brute.dual(form)
            row = form_parting(against, chance.randrange(form_lot_size(against)))
            self.check(None, unmet, form, row)
            other = list(row)
            one, two = chance.sample(range(40), 2)
            other[one], other[two] = other[two], other[one]
            told = unmet(form, brute.parting(other))
            met += told is None
            if told is not None:
                self.assertIsNotNone(form_place(form, told))
                self.assertFalse(brute.in_tree(told, brute.parting(other)))
        self.assertLess(met, 20)

    def test_edges(self):
        self.check(1, form_lot_size, form=0)
        self.check((0,), form_parting, form=0, place=0)
        self.check(0, form_place, form=0, parting=(0,))
        self.check(None, unmet, form=0, parting=(0,))
        self.check(1, form_lot_size, deep_form(40, "both"))
        self.check((0,) * 40, form_parting, deep_form(40, "both", 2), 0)
        self.check(1, form_lot_size, deep_form(40, "either"))
        self.check(None, form_place, deep_form(40, "either"), (0,) * 40)
        self.check((0,) * 40, unmet, deep_form(40, "both"), (0,) * 40)
        form = ("both", 0, ("either", 1, 2))
        self.check((0, 0, 1), form_parting, form, 0)
        self.check((0, 1, 0), form_parting, form, 1)
        self.check(None, form_place, form, (0, 1, 1))
        self.check((0, 1, 0), unmet, form, (0, 1, 0))

    def test_facts(self):
        chance = random.Random(325)
        for _ in range(80):
            doors = chance.randrange(1, 6)
            form = random_form(chance, chance.sample(range(doors), doors))
            lot = brute.form_lot(form)
            for row in lot:
                self.assertEqual(max(row) + 1, repr(form).count("either") + 1)
            for (one, two), word in brute.knot_words(form).items():
                self.assertEqual(any(row[one] == row[two] for row in lot), word == "both")
            self.assertEqual(brute.turned(lot, doors), brute.closed(brute.form_lot(brute.dual(form)), doors))

    def test_refused(self):
        form = ("both", 0, ("either", 1, 2))
        for value in [*wrong_kinds(), (), 1, ("both", 0, 0)]:
            path = (2,) if value == ("both", 0, 0) else ()
            self.refused(BadForm, {"path": path}, form_lot_size, value)
            for call in (form_parting, form_place, unmet):
                self.refused(BadForm, {"path": path}, call, value, None)
        for value in wrong_kinds():
            self.refused(BadNumber, {"value": value}, form_parting, form, value)
            for call in (form_place, unmet):
                self.refused(BadParting, {"place": None}, call, form, value)
        for call in (form_place, unmet):
            self.refused(BadParting, {"place": 1}, call, form, (0, 2))
            self.refused(BadParting, {"place": None}, call, form, (0,) * 61)
            for doors in (1, 2, 4, 60):
                self.refused(BadNumber, {"value": doors}, call, form, (0,) * doors)


def ways(lot, doors):
    """All ways, as the document tells them."""
    mates = {pair for pair in itertools.permutations(range(doors), 2) if any(row[pair[0]] == row[pair[1]] for row in lot)}
    return [row for row in itertools.permutations(range(doors), 4)
            if {(row[0], row[1]), (row[1], row[2]), (row[2], row[3])} <= mates
            and not {(row[0], row[2]), (row[0], row[3]), (row[1], row[3])} & mates]


def candidates(doors):
    """All plain forms with so many doors, by the pairs that are BOTH."""
    told = {}
    for form in all_forms_of(list(range(doors))):
        told[frozenset(pair for pair, word in brute.knot_words(form).items() if word == "both")] = plain(form)
    return told


class ToldBackTests(TestCase):
    FORMS = {}

    def candidate(self, lot, doors):
        if doors not in self.FORMS:
            self.FORMS[doors] = candidates(doors)
        return self.FORMS[doors][frozenset(pair for pair in itertools.combinations(range(doors), 2)
                                           if any(row[pair[0]] == row[pair[1]] for row in lot))]

    def right_form(self, lot, doors):
        if ways(lot, doors):
            return "way", min(ways(lot, doors))
        form = self.candidate(lot, doors)
        rows = brute.form_lot(form)
        if set(rows) - set(lot):
            return "lacks", min(set(rows) - set(lot))
        if set(lot) - set(rows):
            return "more", min(set(lot) - set(rows))
        return "form", form

    def right_alike(self, lot, doors):
        full = brute.closed(lot, doors)
        if ways(full, doors):
            return "way", min(ways(full, doors))
        form = self.candidate(full, doors)
        here = set(brute.turned(lot, doors))
        there = set(brute.turned(brute.form_lot(form), doors))
        if here - there:
            return "first", min(here - there)
        if there - here:
            return "second", min(there - here)
        return "form", form

    def one(self, lot, doors):
        told = self.right_form(lot, doors), self.right_alike(lot, doors)
        self.check(told[0], form_of_lot, lot, doors)
        self.check(told[1], form_alike, lot, doors)
        return [word for word, _ in told]

    def test_all_lots_of_few_doors(self):
        for doors in (1, 2, 3):
            for lot in brute.lots_of(doors):
                self.one(lot, doors)

    def test_some_lots(self):
        chance = random.Random(331)
        words = set()
        for _ in range(300):
            words.update(self.one(brute.random_lot(chance, 4), 4))
        for _ in range(60):
            doors = chance.randrange(2, 5)
            form = random_form(chance, chance.sample(range(doors), doors))
            lot = brute.form_lot(form)
            self.assertEqual(self.one(lot, doors), ["form", "form"])
            # A parting more or less.
            words.update(self.one(tuple(sorted({*lot, chance.choice(all_of(doors))})), doors))
            words.update(self.one(lot[1:], doors))
            words.update(self.one(brute.closed(lot, doors), doors))
        self.assertEqual(words, {"way", "lacks", "more", "form", "first", "second"})

    def test_forms_of_many_doors(self):
        chance = random.Random(332)
        for _ in range(25):
            doors = chance.randrange(5, 7)
            form = random_form(chance, chance.sample(range(doors), doors))
            lot = brute.form_lot(form)
            self.check(("form", plain(form)), form_of_lot, lot, doors)
            self.check(("form", plain(form)), form_alike, lot, doors)
            if len(lot) > 1:
                self.check(("lacks", lot[0]), form_of_lot, lot[1:], doors) if not self.changed(lot) else None

    def changed(self, lot):
        """Whether other doors are mates if the first parting is left out."""
        pairs = list(itertools.combinations(range(len(lot[0])), 2))
        return any(lot[0][one] == lot[0][two] and not any(row[one] == row[two] for row in lot[1:]) for one, two in pairs)

    def test_ways(self):
        self.check(("way", (0, 1, 2, 3)), form_of_lot, lot=WAY, number=4)
        chance = random.Random(333)
        found = 0
        for _ in range(60):
            doors = chance.randrange(5, 7)
            lot = brute.random_lot(chance, doors)
            rows = ways(lot, doors)
            if rows:
                found += 1
                self.check(("way", min(rows)), form_of_lot, lot, doors)
        self.assertGreater(found, 5)

    def test_edges(self):
        self.check(("form", 0), form_of_lot, ((0,),), 1)
        self.check(("lacks", (0,)), form_of_lot, (), 1)
        self.check(("form", 0), form_alike, lot=(), number=1)
        self.check(("lacks", (0, 1, 2, 3, 4, 5)), form_of_lot, (), 6)
        self.one((), 2)
        self.one((), 4)
        self.one(all_of(4), 4)
        both = ("both", ("both", ("both", ("both", ("both", 0, 1), 2), 3), 4), 5)
        self.check(("lacks", (0,) * 6), form_of_lot, tuple(row for row in all_of(6) if row != (0,) * 6), 6)
        self.check(("more", (0, 0, 0, 0, 0, 1)), form_of_lot, all_of(6), 6)
        self.check(("form", both), form_of_lot, ((0,) * 6,), 6)
        self.check(("second", (0, 1, 2, 3, 4, 5)), form_alike, all_of(6), 6)

    def test_refused(self):
        for call in (form_of_lot, form_alike):
            for number in [*wrong_kinds(), 0, 7, -1, GREAT]:
                self.refused(BadNumber, {"value": number}, call, None, number)
            for lot in wrong_kinds():
                self.refused(BadLot, {"word": "tuple"}, call, lot, 3)
            self.refused(BadLot, {"word": "parting"}, call, ((0, 0, 0), (0, 1)), 3)
            self.refused(BadLot, {"word": "order"}, call, ((0, 1, 1), (0, 0, 0), None), 3)
