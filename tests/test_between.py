"""Point 22: the partings between two."""

import random

from fittingdoors.between import between_at, between_number, number_between
from fittingdoors.errors import BadNumber
from tests import brute
from tests.brute import GREAT, TestCase, wrong_kinds

FINEST = tuple(range(60))
COARSEST = (0,) * 60


def bell(number):
    """How many partings there are, by the triangle."""
    row = [1]
    for _ in range(number - 1):
        more = [row[-1]]
        for value in row:
            more.append(more[-1] + value)
        row = more
    return row[-1]


class BetweenTests(TestCase):
    def test_against_all(self):
        for doors in range(1, 6):
            rows = brute.partings(doors)
            for one in rows:
                for two in rows:
                    found = [r for r in rows if brute.finer(one, r) and brute.finer(r, two)]
                    self.check(len(found), between_number, one, two)
                    for number, row in enumerate(found):
                        self.check(row, between_at, one, two, number)
                    for number in (-1, len(found), len(found) + 1, GREAT):
                        self.refused(BadNumber, {"value": number}, between_at, one, two, number)
                    if doors < 5 or rows.index(one) % 7 == 3:
                        for row in rows:
                            place = found.index(row) if row in found else None
                            self.check(place, number_between, one, two, row)

    def test_by_name(self):
        self.check(5, between_number, parting=(0, 1, 2), other=(0, 0, 0))
        self.check((0, 1, 0), between_at, parting=(0, 1, 2), other=(0, 0, 0), number=2)
        self.check(2, number_between, parting=(0, 1, 2), other=(0, 0, 0), third=(0, 1, 0))

    def test_sixty_doors(self):
        many = bell(60)
        self.check(many, between_number, FINEST, COARSEST)
        self.check(FINEST, between_at, FINEST, COARSEST, many - 1)
        self.check(COARSEST, between_at, FINEST, COARSEST, 0)
        self.refused(BadNumber, {"value": many}, between_at, FINEST, COARSEST, many)
        chance = random.Random(2)
        last = None
        for number in sorted(chance.randrange(many) for _ in range(10)):
            row = between_at(FINEST, COARSEST, number)
            self.assertEqual(row, brute.parting(row))
            self.check(number, number_between, FINEST, COARSEST, row)
            self.assertTrue(last is None or last < row)
            last = row

    def test_sixty_doors_in_blocks(self):
        low = tuple(brute.parting([(door * 7) % 40 for door in range(60)]))
        high = tuple(brute.parting([(door * 7) % 40 % 3 for door in range(60)]))
        self.assertTrue(brute.finer(low, high))
        many = 1
        for block in set(high):
            many *= bell(len({low[door] for door in range(60) if high[door] == block}))
        self.check(many, between_number, low, high)
        chance = random.Random(3)
        for number in [0, many - 1, *[chance.randrange(many) for _ in range(10)]]:
            row = between_at(low, high, number)
            self.assertTrue(brute.finer(low, row) and brute.finer(row, high))
            self.check(number, number_between, low, high, row)
        self.check(0, number_between, low, high, high)
        self.check(many - 1, number_between, low, high, low)
        self.check(None, number_between, low, high, FINEST)
        self.check(None, number_between, low, high, COARSEST)
        self.check(0, between_number, COARSEST, FINEST)
        self.check(1, between_number, FINEST, FINEST)

    def test_wrong_numbers(self):
        for value in [*wrong_kinds(), -1, -GREAT, (0,), (), 5]:
            self.refused(BadNumber, {"value": value}, between_at, (0, 1, 2), (0, 0, 0), value)
        for value in [*wrong_kinds(), 0, 1, -1, (0,)]:
            self.refused(BadNumber, {"value": value}, between_at, (0, 0, 0), (0, 1, 2), value)
