"""Point 25: how many meet, and which."""

from fittingdoors.errors import BadNumber, TooGreat
from fittingdoors.meeters import all_meeting, meeting_by_sizes, meeting_number, meeting_pairs
from tests import brute
from tests.brute import GREAT, TestCase, wrong_kinds

FINEST = tuple(range(60))
COARSEST = (0,) * 60
HALVES = (0,) * 30 + (1,) * 30


def sizes_of(row):
    return tuple(sorted((row.count(block) for block in set(row)), reverse=True))


def sums(total, most):
    """All tuples of sizes with this sum, none greater than the one ahead."""
    if total == 0:
        return [()]
    return [(size,) + rest for size in range(min(total, most), 0, -1) for rest in sums(total - size, size)]


class MeeterTests(TestCase):
    def test_against_all(self):
        for doors in range(1, 7):
            rows = brute.partings(doors)
            pairs = 0
            for one in rows:
                found = tuple(two for two in rows if brute.in_tree(one, two))
                pairs += len(found)
                self.check(len(found), meeting_number, one)
                self.check(found, all_meeting, one)
                for sizes in sums(doors, doors):
                    right = len([two for two in found if sizes_of(two) == sizes])
                    self.check(right, meeting_by_sizes, one, sizes)
            self.check(pairs, meeting_pairs, doors)

    def test_by_name(self):
        self.check(2, meeting_number, parting=(0, 0, 1))
        self.check(((0, 1, 0), (0, 1, 1)), all_meeting, parting=(0, 0, 1))
        self.check(2, meeting_by_sizes, parting=(0, 0, 1), sizes=(2, 1))
        self.check(2, meeting_pairs, number=2)

    def test_thirty_and_sixty_doors(self):
        self.check(1, meeting_number, FINEST)
        self.check(1, meeting_number, COARSEST)
        self.check((COARSEST,), all_meeting, FINEST)
        self.check((FINEST,), all_meeting, COARSEST)
        self.check(900, meeting_number, HALVES)
        rows = all_meeting(HALVES)
        self.assertEqual(len(set(rows)), 900)
        self.assertEqual(list(rows), sorted(rows))
        for row in rows[::37]:
            self.assertTrue(brute.in_tree(HALVES, row) and row == brute.parting(row))
        self.check(900, meeting_by_sizes, HALVES, (2,) + (1,) * 58)
        chain = tuple(door // 2 for door in range(60))
        self.check(2 ** 30 * 31 ** 28, meeting_number, chain)
        fifteen = tuple(door // 2 for door in range(30))
        self.check(2 ** 15 * 16 ** 13, meeting_number, fifteen)
        for one, doors in ((fifteen, 30), (FINEST[:30], 30), (COARSEST[:30], 30)):
            told = sum(meeting_by_sizes(one, sizes) for sizes in sums(doors, doors))
            self.assertEqual(told, meeting_number(one))

    def test_pairs_by_sizes(self):
        # Each pair counted by the sizes of its first parting.
        for doors in (10, 20):
            fact = [1]
            for number in range(1, doors + 1):
                fact.append(fact[-1] * number)
            told = 0
            for sizes in sums(doors, doors):
                row = tuple(block for block, size in enumerate(sizes) for _ in range(size))
                many = fact[doors]
                for size in sizes:
                    many //= fact[size]
                for size in set(sizes):
                    many //= fact[sizes.count(size)]
                told += many * meeting_number(row)
            self.check(told, meeting_pairs, doors)
        self.check(1, meeting_pairs, 1)
        self.assertGreater(meeting_pairs(60), 10 ** 80)

    def test_just_a_thousand(self):
        found = {}
        for sizes in [sizes for total in range(1, 17) for sizes in sums(total, total)]:
            row = tuple(block for block, size in enumerate(sizes) for _ in range(size))
            found.setdefault(meeting_number(row), row)
        near = [number for number in sorted(found) if 900 <= number <= 1000]
        beyond = min(number for number in found if number > 1000)
        self.assertIn(1000, found)
        for number in near:
            self.assertEqual(len(all_meeting(found[number])), number)
        self.assertLess(beyond, 1010)
        self.refused(TooGreat, {"most": 1000}, all_meeting, found[beyond])

    def test_too_many(self):
        for one in (tuple(door // 2 for door in range(60)), (0,) * 29 + (1,) * 29 + (2, 3)):
            self.refused(TooGreat, {"most": 1000}, all_meeting, one)

    def test_wrong_sizes(self):
        row = (0, 0, 1)
        values = [*wrong_kinds(), (), 3, GREAT, (1, 2), (2, 2), (1,), (3, 0), (4, -1), (61,), (2, 1, 0), [2, 1],
                  ("2", 1), (2, None), (2, True), (2, (1,)), (GREAT,), (1,) * 61]
        for value in values:
            self.refused(BadNumber, {"value": value}, meeting_by_sizes, row, value)
        self.refused(BadNumber, {"value": (60, 1)}, meeting_by_sizes, COARSEST, (60, 1))

    def test_wrong_numbers(self):
        for value in [*wrong_kinds(), 0, -1, 61, GREAT, -GREAT, (3,), ()]:
            self.refused(BadNumber, {"value": value}, meeting_pairs, value)
