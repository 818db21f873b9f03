"""Point 47: copies of a lot, one behind another."""

import itertools
import random

from fittingdoors.chains import chained, closed_course, course
from fittingdoors.errors import BadLot, BadNumber
from tests import brute
from tests.brute import TestCase, all_of, wrong_kinds

MANY = 10 ** 30
SHIFT = (0, 1, 2, 1, 2, 0)


def right_chained(lot, doors, times):
    """By the web of each choice of a parting for each copy."""
    half = doors // 2
    told = set()
    for rows in itertools.product(lot, repeat=times):
        nodes = [(at, block) for at, row in enumerate(rows) for block in sorted(set(row))]
        edges = [((at, rows[at][half + door]), (at + 1, rows[at + 1][door])) for at in range(times - 1)
                 for door in range(half)]
        ends = [(0, rows[0][door]) for door in range(half)]
        ends += [(times - 1, rows[-1][half + door]) for door in range(half)]
        told.add(brute.hung_together(nodes, edges, ends))
    return None if None in told else tuple(sorted(told))


def next_one(told, lot, doors):
    """The lot of one copy more."""
    half = doors // 2
    return None if told is None else brute.all_glued(told, lot, tuple((half + door, door) for door in range(half)))


def right_course(rows):
    """The least period, and for it the least start, of a row whose second half is known to be periodic."""
    half = len(rows) // 2
    for period in range(1, half):
        if all(rows[at] == rows[at + period] for at in range(half, len(rows) - period)):
            start = half
            while start and rows[start - 1] == rows[start - 1 + period]:
                start -= 1
            return start + 1, period
    raise AssertionError("no period")


def class_of(lot, doors):
    """What the closed course looks at; None where nothing meets the lot."""
    turned = () if lot is None else brute.turned(lot, doors)
    return brute.turned(turned, doors) if turned else None


def random_link(chance, doors):
    """Some lot; often of partings that lead from the left doors to the right ones."""
    half = doors // 2
    if chance.random() < 0.4:
        told = ()
        while not told:
            told = brute.random_lot(chance, doors, 4)
        return told
    rows = [row for row in all_of(doors) if max(row) + 1 == half and len(set(row[:half])) + len(set(row[half:])) > half]
    return tuple(sorted(chance.sample(rows, min(len(rows), chance.randrange(1, 4)))))


class ChainTests(TestCase):
    def one(self, lot, doors, length=40):
        rows = [lot]
        while len(rows) < length:
            rows.append(next_one(rows[-1], lot, doors))
        for times in (1, 2, 3, 4, 7, length):
            self.check(rows[times - 1], chained, lot, doors, times)
        told = right_course(rows)
        self.check(told, course, lot, doors)
        start, period = told
        for times in (MANY, MANY - 1, 10 ** 9 + 7, 10 ** 9 + 8):
            self.check(rows[(times - start) % period + start - 1], chained, lot, doors, times)
        told = right_course([class_of(row, doors) for row in rows])
        self.check(told, closed_course, lot, doors)
        return start, period, told

    def test_webs(self):
        for doors, most in ((2, 4), (4, 3)):
            lots = brute.lots_of(doors) if doors == 2 else [lot for many in (1, 2) for lot in
                                                            itertools.combinations(all_of(4), many)]
            for lot in lots:
                for times in range(1, most + 1):
                    if lot:
                        self.check(right_chained(lot, doors, times), chained, lot, doors, times)
        chance = random.Random(191)
        for _ in range(60):
            lot = random_link(chance, 6)
            for times in (2, 3):
                self.check(right_chained(lot, 6, times), chained, lot, 6, times)

    def test_all_links_of_two_doors(self):
        told = [self.one(lot, 2) for lot in brute.lots_of(2) if lot]
        self.assertEqual(told, [(1, 1, (1, 1)), (2, 1, (2, 1)), (2, 1, (1, 1))])

    def test_links_of_four_doors(self):
        seen = set()
        for many in (1, 2):
            for lot in itertools.combinations(all_of(4), many):
                seen.add(self.one(lot, 4, 20))
        self.assertGreater(len(seen), 5)

    def test_links_of_six_doors(self):
        chance = random.Random(192)
        seen = set()
        for _ in range(60):
            seen.add(self.one(random_link(chance, 6), 6))
        self.assertGreater(len(seen), 8)
        self.assertEqual(self.one((SHIFT,), 6), (1, 3, (1, 3)))
        self.assertEqual(self.one(((0, 1, 2, 1, 0, 2), SHIFT), 6), (3, 1, (3, 1)))

    def test_long_courses(self):
        for right, lot in (
                ((2, 2, (1, 2)), ((0, 1, 2, 0, 0, 0), (0, 1, 2, 0, 0, 1), (0, 1, 2, 0, 2, 1))),
                ((2, 2, (2, 2)), ((0, 0, 1, 0, 1, 2), (0, 1, 0, 0, 2, 1))),
                ((2, 3, (2, 1)), ((0, 1, 2, 0, 0, 0), SHIFT, (0, 1, 2, 2, 2, 2))),
                ((3, 4, (3, 1)), ((0, 0, 1, 0, 1, 2), (0, 1, 0, 1, 2, 0))),
                ((5, 3, (1, 1)), ((0, 1, 2, 0, 2, 0), (0, 1, 2, 1, 1, 2), (0, 1, 2, 2, 0, 1))),
                ((6, 2, (2, 1)), ((0, 1, 2, 1, 0, 2), (0, 1, 2, 1, 1, 0), (0, 1, 2, 2, 1, 0))),
                ((8, 3, (5, 1)), ((0, 0, 1, 1, 2, 0), (0, 1, 2, 2, 0, 1))),
                ((13, 3, (2, 1)), ((0, 0, 0, 1, 0, 2), (0, 1, 0, 1, 2, 0), SHIFT))):
            self.assertEqual(self.one(lot, 6), right)

    def test_closed_course_is_less(self):
        # Lots that are unlike but have one closed lot: found among all of few partings.
        seen = set()
        for many in (1, 2, 3):
            for lot in itertools.combinations(all_of(4), many):
                one, two = course(lot, 4), closed_course(lot, 4)
                seen.add((one[0] > two[0], one[1] > two[1]))
                self.assertEqual(one[1] % two[1], 0)
                self.assertLessEqual(two[0], one[0])
        self.assertIn((True, False), seen)

    def test_facts(self):
        chance = random.Random(193)
        for _ in range(150):
            doors = chance.choice((2, 4, 6))
            lot = random_link(chance, doors)
            half = doors // 2
            sizes = {max(row) + 1 for row in lot}
            if len(sizes) == 1 and sizes != {half}:
                self.check(None, chained, lot, doors, half + 1)
            if chained(lot, doors, 3) is None:
                self.check(None, chained, lot, doors, 4)
                self.check(None, chained, lot, doors, MANY)

    def test_names(self):
        self.check(((0, 1, 0, 1),), chained, lot=((0, 1, 1, 0),), doors=4, times=2)
        self.check((1, 2), course, lot=((0, 1, 1, 0),), doors=4)
        self.check((1, 2), closed_course, lot=((0, 1, 1, 0),), doors=4)

    def test_great_lots(self):
        for doors in (2, 4, 6):
            rows = all_of(doors)
            self.check(rows, chained, rows, doors, 1)
            self.check(None, chained, rows, doors, 2)
            self.check((2, 1), course, rows, doors)
            # Nothing meets all of them, nor of the copies.
            self.check((1, 1), closed_course, rows, doors)
        threes = tuple(row for row in all_of(6) if max(row) == 2)
        self.check(None, chained, threes, 6, MANY)

    def test_refused(self):
        for doors in (*wrong_kinds(), 0, 1, 3, 5, 8, -2, 10 ** 999, (2,)):
            self.refused(BadNumber, {"value": doors}, chained, None, doors, None)
            self.refused(BadNumber, {"value": doors}, course, None, doors)
            self.refused(BadNumber, {"value": doors}, closed_course, None, doors)
        for word, lots in (("tuple", [*wrong_kinds(), 0]), ("parting", [((0,),), (None,), ((0, 0), (0, 2))]),
                           ("order", [((0, 1), (0, 0)), ((0, 0), (0, 0))]), ("empty", [()])):
            for lot in lots:
                self.refused(BadLot, {"word": word}, chained, lot, 2, None)
                self.refused(BadLot, {"word": word}, course, lot, 2)
                self.refused(BadLot, {"word": word}, closed_course, lot, 2)
        for times in (*wrong_kinds(), 0, -1, MANY + 1, 10 ** 999, (1,)):
            self.refused(BadNumber, {"value": times}, chained, ((0, 0),), 2, times)
