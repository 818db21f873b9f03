"""Points 61 and 62: wirings, many copies of them, and the loops that come."""

import itertools
import random

from fittingdoors.errors import BadDoor, BadNumber, BadPiece
from fittingdoors.joining import joined
from fittingdoors.wirings import (need_wiring, ring_loops, wiring_of, wiring_piece, wiring_power, wirings_joined)
from tests.brute import GREAT, TestCase, components, pairings, wrong_kinds

MOST = 10 ** 30


def random_wiring(chance, doors):
    rows = chance.sample(range(doors), doors)
    told = [None] * doors
    for one, two in zip(rows[::2], rows[1::2]):
        told[one], told[two] = two, one
    return tuple(told)


def all_wirings(doors):
    told = []
    for lines in pairings(list(range(doors))):
        row = [None] * doors
        for one, two in lines:
            row[one], row[two] = two, one
        told.append(tuple(row))
    return told


def right_row(wirings, is_ring=False):
    """The wiring of several behind one another, and the loops, by the parts of the graph of all doors."""
    half = len(wirings[0]) // 2
    edges = []
    for at, wiring in enumerate(wirings):
        edges += [((at, door), (at, other)) for door, other in enumerate(wiring) if door < other]
        if at + 1 < len(wirings) or is_ring:
            edges += [((at, half + door), ((at + 1) % len(wirings), door)) for door in range(half)]
    nodes = [(at, door) for at in range(len(wirings)) for door in range(2 * half)]
    open_ends = {} if is_ring else {(0, door): door for door in range(half)} | {
        (len(wirings) - 1, door): door for door in range(half, 2 * half)}
    told = [None] * (2 * half)
    loops = 0
    for part in components(nodes, edges):
        ends = sorted(open_ends[node] for node in part if node in open_ends)
        if ends:
            one, two = ends
            told[one], told[two] = two, one
        else:
            loops += 1
    return tuple(told), loops


class WiringTests(TestCase):
    def test_wirings_of_few_doors(self):
        for doors in range(5):
            right = set(all_wirings(doors) if doors % 2 == 0 else ())
            for row in itertools.product(range(doors), repeat=doors):
                if row in right:
                    self.check(row, need_wiring, row)
                    piece = wiring_piece(row)
                    self.plain(piece)
                    self.assertEqual(piece[:2], (doors, ()))
                    self.assertEqual(piece[2], tuple(sorted(((-1, one), (-1, row[one])) for one in range(doors)
                                                            if one < row[one])))
                    self.check(row, wiring_of, piece)
                else:
                    same = [door for door in range(doors) if row[door] == door]
                    first = same or [door for door in range(doors) if row[row[door]] != door]
                    self.refused(BadDoor, {"door": first[0]}, need_wiring, row)

    def test_pieces(self):
        chance = random.Random(511)
        for _ in range(100):
            doors = 2 * chance.randrange(21)
            row = random_wiring(chance, doors)
            lines = [tuple(chance.sample(((-1, one), (-1, row[one])), 2)) for one in range(doors) if one < row[one]]
            chance.shuffle(lines)
            self.check(row, wiring_of, piece=(doors, (), tuple(lines)))
        self.check((), wiring_of, (0, (), ()))
        self.check((0, (), ()), wiring_piece, wiring=())

    def test_two(self):
        for doors in (0, 2, 4, 6):
            rows = all_wirings(doors)
            for one, two in itertools.product(rows, rows):
                self.check(right_row([one, two]), wirings_joined, one, two)
        chance = random.Random(512)
        for _ in range(200):
            doors = 2 * chance.randrange(21)
            one, two = random_wiring(chance, doors), random_wiring(chance, doors)
            self.check(right_row([one, two]) if doors else ((), 0), wirings_joined, wiring=one, other=two)

    def test_two_as_pieces(self):
        chance = random.Random(513)
        for _ in range(40):
            half = chance.randrange(1, 8)
            one, two = random_wiring(chance, 2 * half), random_wiring(chance, 2 * half)
            told, loops = wirings_joined(one, two)
            piece = joined(wiring_piece(one), wiring_piece(two), tuple((half + door, door) for door in range(half)))
            self.assertEqual(len(piece[1]), 2 * loops)
            self.assertEqual(tuple(line for line in piece[2] if line[0][0] == -1), wiring_piece(told)[2])

    def test_few_copies(self):
        chance = random.Random(514)
        rows = all_wirings(2) + all_wirings(4) + all_wirings(6)[::2]
        rows += [random_wiring(chance, 2 * chance.randrange(1, 21)) for _ in range(30)]
        for row in rows:
            for number in range(1, 9):
                self.check(right_row([row] * number), wiring_power, row, number)
                self.check(right_row([row] * number, True)[1], ring_loops, row, number)

    def test_no_copies(self):
        for half in range(21):
            chance = random.Random(515)
            row = random_wiring(chance, 2 * half)
            right = tuple(range(half, 2 * half)) + tuple(range(half))
            self.check((right, 0), wiring_power, wiring=row, number=0)
            self.check(right_row([right, row]) if half else ((), 0), wirings_joined, right, row)

    def test_many_copies(self):
        chance = random.Random(516)
        for _ in range(40):
            half = chance.randrange(1, 21)
            row = random_wiring(chance, 2 * half)
            one, two = chance.randrange(MOST), chance.randrange(10 ** chance.randrange(1, 29))
            one = min(one, MOST - two)
            (first, loops), (second, more) = wiring_power(row, one), wiring_power(row, two)
            told, last = wirings_joined(first, second)
            self.check((told, loops + more + last), wiring_power, row, one + two)
            # A ring of all copies is that of one, which is told for all of them.
            self.check(loops + more + last + ring_loops(told, 1), ring_loops, row, max(1, one + two))

    def test_greatest_number_of_copies(self):
        # Nothing comes of straight lines but themselves; crossed ones turn by turn.
        straight = (2, 3, 0, 1)
        self.check((straight, 0), wiring_power, straight, MOST)
        self.check(2, ring_loops, straight, MOST)
        crossed = (3, 2, 1, 0)
        self.check((straight, 0), wiring_power, crossed, MOST)
        self.check((crossed, 0), wiring_power, crossed, MOST - 1)
        self.check(2, ring_loops, crossed, MOST)
        self.check(1, ring_loops, crossed, MOST - 1)
        # A loop for each tie of doors that are turned back.
        back = (1, 0, 3, 2)
        self.check((back, MOST - 1), wiring_power, back, MOST)
        self.check(MOST, ring_loops, back, MOST)
        self.check((back, 0), wiring_power, back, 1)
        self.check(1, ring_loops, back, 1)
        wide = tuple(door ^ 1 for door in range(40))
        self.check((wide, 10 * (MOST - 1)), wiring_power, wide, MOST)
        # A turn of twenty lines comes back when twenty goes into the number.
        turn = tuple(20 + (door + 1) % 20 for door in range(20)) + tuple((door - 1) % 20 for door in range(20))
        self.check((tuple(range(20, 40)) + tuple(range(20)), 0), wiring_power, turn, MOST)
        self.check(20, ring_loops, turn, MOST)
        self.check(1, ring_loops, turn, MOST - 1)

    def test_without_doors(self):
        self.check(((), 0), wirings_joined, (), ())
        self.check(((), 0), wiring_power, (), MOST)
        self.check(0, ring_loops, wiring=(), number=MOST)

    def test_refused(self):
        calls = [need_wiring, wiring_piece, lambda row: wirings_joined(row, None), lambda row: wirings_joined((1, 0), row),
                 lambda row: wiring_power(row, None), lambda row: ring_loops(row, None)]
        for call in calls:
            for value in [*wrong_kinds(), 0, (1, 0) * 21, [1, 0]]:
                self.refused(BadDoor, {"door": None}, call, value)
            for value in [*wrong_kinds(), 1, 4, -1, GREAT, (0,)]:
                self.refused(BadDoor, {"door": 1}, call, (3, value, 1, 0))
            self.refused(BadDoor, {"door": 0}, call, (0,))
            self.refused(BadDoor, {"door": 0}, call, (1, 2, 0))
            self.refused(BadDoor, {"door": 3}, call, (2, 2, 0, 4))
            self.refused(BadDoor, {"door": 1}, call, (2, 2, 0, 1))
        self.refused(BadNumber, {"value": 4}, wirings_joined, (1, 0), (1, 0, 3, 2))
        self.refused(BadNumber, {"value": 0}, wirings_joined, (1, 0), ())
        for number in [*wrong_kinds(), -1, MOST + 1, GREAT]:
            self.refused(BadNumber, {"value": number}, wiring_power, (1, 0), number)
            self.refused(BadNumber, {"value": number}, ring_loops, (1, 0), number)
        self.refused(BadNumber, {"value": 0}, ring_loops, (1, 0), 0)
        for value in [*wrong_kinds(), 0, ()]:
            self.refused(BadPiece, {"word": "form", "place": None}, wiring_of, value)
        self.refused(BadPiece, {"word": "ends", "place": None}, wiring_of, (2, (), ()))
        self.refused(BadPiece, {"word": "knots", "place": 0}, wiring_of,
                     (1, ("either",), (((-1, 0), (0, 0)), ((0, 1), (0, 2)))))
