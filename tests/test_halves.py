"""Point 26: halves and their completions."""

import itertools
import random

from fittingdoors.errors import BadNumber, BadParting, TooGreat
from fittingdoors.halves import completion_at, completions_number, number_of_completion
from fittingdoors.meeters import meeting_number
from tests import brute
from tests.brute import GREAT, TestCase, wrong_kinds

FINEST = tuple(range(60))
COARSEST = (0,) * 60
CHAIN = tuple(door // 2 for door in range(60))


def halves(doors):
    """All halves of so many doors."""
    found = set()
    for row in brute.partings(doors):
        for flags in itertools.product((0, 1), repeat=doors):
            told = iter(brute.parting([block for block, flag in zip(row, flags) if flag]))
            found.add(tuple(next(told) if flag else None for flag in flags))
    return sorted(found, key=str)


def code(half, row):
    """The code of a completion by the words of the document, None of what is none."""
    told = [door for door in range(len(half)) if half[door] is not None]
    for one in told:
        for two in told:
            if (half[one] == half[two]) != (row[one] == row[two]):
                return None
    names = {row[door]: half[door] for door in told}
    numbers = []
    for door in range(len(half)):
        if half[door] is None:
            if row[door] not in names:
                names[row[door]] = len(names)
            numbers.append(names[row[door]])
    return tuple(numbers)


def completions(one, half):
    """All completions, by their codes ascending."""
    rows = []
    for row in brute.partings(len(one)):
        if brute.in_tree(one, row):
            found = code(half, row)
            if found is not None:
                rows.append((found, row))
    return [row for _, row in sorted(rows)]


class HalfTests(TestCase):
    def test_examples(self):
        self.check(1, completions_number, (0, 0, 1), (None, 0, 0))
        self.check((0, 1, 1), completion_at, (0, 0, 1), (None, 0, 0), 0)
        self.check(2, completions_number, parting=(0, 0, 1), half=(0, None, None))
        self.check((0, 1, 0), completion_at, parting=(0, 0, 1), half=(0, None, None), number=0)
        self.check((0, 1, 1), completion_at, (0, 0, 1), (0, None, None), 1)
        self.check(1, number_of_completion, parting=(0, 0, 1), half=(0, None, None), other=(0, 1, 1))

    def test_against_all(self):
        for doors in range(1, 6):
            for half in halves(doors):
                for one in brute.partings(doors):
                    self.small(one, half, doors < 5)

    def small(self, one, half, whole):
        rows = completions(one, half)
        self.check(len(rows), completions_number, one, half)
        for number, row in enumerate(rows):
            self.check(row, completion_at, one, half, number)
            self.check(number, number_of_completion, one, half, row)
        self.refused(BadNumber, {"value": len(rows)}, completion_at, one, half, len(rows))
        if whole:
            for row in brute.partings(len(one)):
                if row not in rows:
                    self.check(None, number_of_completion, one, half, row)

    def test_six_doors(self):
        chance = random.Random(7)
        told = halves(6)
        for _ in range(60):
            self.small(chance.choice(brute.partings(6)), chance.choice(told), False)

    def test_nothing_told(self):
        for one in (FINEST, COARSEST, CHAIN, (0,) * 30 + (1,) * 30, (0,)):
            self.check(meeting_number(one), completions_number, one, (None,) * len(one))
        for one in brute.partings(5):
            self.check(meeting_number(one), completions_number, one, (None,) * 5)

    def test_all_told(self):
        for one in brute.partings(4):
            for row in brute.partings(4):
                self.check(int(brute.in_tree(one, row)), completions_number, one, row)
        shifted = tuple((door + 1) // 2 for door in range(60))
        self.check(1, completions_number, CHAIN, shifted)
        self.check(0, completions_number, CHAIN, CHAIN)

    def test_sixty_doors(self):
        self.check(1, completions_number, FINEST, (0,) * 59 + (None,))
        self.check(0, completions_number, FINEST, (0,) + (None,) * 58 + (1,))
        self.check(0, completions_number, COARSEST, (0, 0) + (None,) * 58)
        self.check(1, completions_number, COARSEST, (0, 1) + (None,) * 58)
        # One door of the halves tells nothing new.
        for door in range(0, 60, 7):
            half = (None,) * door + (0,) + (None,) * (59 - door)
            self.check(meeting_number(CHAIN), completions_number, CHAIN, half)

    def test_sixty_doors_add_up(self):
        chance = random.Random(8)
        for _ in range(20):
            one = brute.parting([chance.randrange(30) for _ in range(60)])
            half = tuple(brute.parting(list(range(8)))) + (None,) * 52
            many = completions_number(one, half)
            parts = [completions_number(one, half[:8] + (block,) + (None,) * 51) for block in range(9)]
            self.assertEqual(sum(parts), many)

    def test_thirty_doors(self):
        chance = random.Random(9)
        rows = [CHAIN[:30], FINEST[:30], COARSEST[:30]]
        rows += [brute.parting([chance.randrange(18) for _ in range(30)]) for _ in range(6)]
        for one in rows:
            half = [None] * 30
            if meeting_number(one) > 1:
                half[3] = half[20] = 0
                half[11] = 1
                half = self.told_anew(half)
            many = completions_number(one, tuple(half))
            for number in sorted({0, many - 1, many // 2, chance.randrange(many)} if many else ()):
                row = completion_at(one, tuple(half), number)
                self.assertTrue(brute.in_tree(one, row))
                self.assertIsNotNone(code(tuple(half), row))
                self.check(number, number_of_completion, one, tuple(half), row)
            self.refused(BadNumber, {"value": many}, completion_at, one, tuple(half), many)

    def told_anew(self, half):
        told = iter(brute.parting([block for block in half if block is not None]))
        return [None if block is None else next(told) for block in half]

    def test_codes_ascend_at_thirty_doors(self):
        one = CHAIN[:30]
        half = (0, None, 1, None, None, 0) + (None,) * 24
        many = completions_number(one, half)
        self.assertGreater(many, 10 ** 6)
        rows = [completion_at(one, half, number) for number in range(0, many, many // 12)]
        codes = [code(half, row) for row in rows]
        self.assertEqual(codes, sorted(set(codes)))

    def test_wrong_halves(self):
        row = (0, 0, 1)
        calls = [(completions_number, ()), (completion_at, (0,)), (number_of_completion, ((0, 1, 1),))]
        for call, rest in calls:
            for value in [*wrong_kinds(), (), (None,) * 2, (None,) * 4, (0,) * 61, 0, [None, 0, 0]]:
                self.refused(BadParting, {"place": None}, call, row, value, *rest)
            for value in [True, False, "", "0", [], (), (0,), {}, Thing_, 2, -1, GREAT, -GREAT]:
                self.refused(BadParting, {"place": 2}, call, row, (None, 0, value), *rest)
                self.refused(BadParting, {"place": 1}, call, row, (0, value if value != 2 else 3, "x"), *rest)
            self.refused(BadParting, {"place": 0}, call, row, (1, 0, 0), *rest)

    def test_too_great_and_two_bad_numbers(self):
        for doors in (31, 60):
            one, half = FINEST[:doors], (None,) * doors
            self.refused(TooGreat, {"most": 30}, completion_at, one, half, 0)
            self.refused(TooGreat, {"most": 30}, completion_at, one, half, GREAT)
            self.refused(TooGreat, {"most": 30}, number_of_completion, one, half, COARSEST[:doors])
            self.check(1, completions_number, one, half)
            for value in [*wrong_kinds(), -1, -GREAT, (0,)]:
                self.refused(BadNumber, {"value": value}, completion_at, one, half, value)
            self.refused(BadNumber, {"value": 1}, number_of_completion, one, half, (0,))
            self.refused(BadParting, {"place": 0}, number_of_completion, one, half, ("x",))
        for value in [*wrong_kinds(), -1, 1, 2, GREAT]:
            self.refused(BadNumber, {"value": value}, completion_at, (0, 1), (0, None), value)
        self.check((0,) * 30, completion_at, FINEST[:30], (None,) * 30, 0)
        self.check(0, number_of_completion, FINEST[:30], (None,) * 30, (0,) * 30)


Thing_ = brute.Thing()
