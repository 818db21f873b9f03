"""Points 48 and 50 at small terms of few letters: what is told stays the same, and it is told soon."""

import random
import time

from fittingdoors.alike import parted
from fittingdoors.errors import BadLetter, BadTerm, NotSound, TooGreat
from fittingdoors.joining import joined
from fittingdoors.letters import alphabet_of, term_piece
from fittingdoors.lotting import bad_setting, is_sound, lot_of
from fittingdoors.melting import fits_tree
from fittingdoors.partings import partings_into
from fittingdoors.pieces import plain_piece
from fittingdoors.states import all_states, state_of
from fittingdoors.terms import term_lot
from tests import brute
from tests.brute import TestCase, all_of
from tests.test_letters import deep

CAP = (1, ("either",), (((-1, 0), (0, 2)), ((0, 0), (0, 1))))


def chain(units):
    """A piece of so many units of a BOTH knot and an EITHER knot, one behind another, between two doors."""
    lines = []
    for unit in range(units):
        end = (-1, 0) if unit == 0 else (2 * (unit - 1), 2)
        lines += [(end, (2 * unit, 0)), ((2 * unit, 1), (2 * unit + 1, 2)), ((2 * unit + 1, 0), (2 * unit + 1, 1))]
    lines.append(((2 * (units - 1), 2), (-1, 1)))
    return 2, ("both", "either") * units, tuple(lines)


ROWS = ((1, (), CAP), (1, (1,), chain(18)))


def right_piece(rows, term):
    """The piece of a term by joining bundle by bundle."""
    up, downs, piece = rows[term[0]]
    told = plain_piece(piece)
    for width, inner in zip(downs, term[1:]):
        told = joined(told, right_piece(rows, inner), tuple((up + door, door) for door in range(width)))
    return told


def some_rows(chance, sound):
    """Up to five letters of up to five doors, the first of one width without bundles."""
    widths = chance.sample((1, 2, 2, 3), 2)
    told = []
    for number in range(chance.randrange(2, 6)):
        up = widths[number] if number < 2 else chance.choice(widths)
        downs = tuple(chance.choice(widths) for _ in range(chance.choice((1, 1, 2)) if number > 1 else 0))
        while up + sum(downs) > 5:
            downs = downs[:-1]
        doors = up + sum(downs)
        if sound:
            piece = brute.sound_piece(chance, doors, 5)
        else:
            knots = chance.randrange(4)
            piece = brute.random_piece(chance, doors, [chance.choice(("both", "either"))
                                                       for _ in range(knots + (knots + doors) % 2)])
        told.append((up, downs, piece))
    return tuple(told)


def some_terms(chance, rows, most):
    terms = brute.all_terms(tuple((up, downs, ((0,),)) for up, downs, _ in rows), most)
    return chance.sample(terms, min(3, len(terms)))


class SmallTermTests(TestCase):
    def test_the_chain_of_units(self):
        term = deep(1, 6, (0,))
        self.assertEqual(term, (1, (1, (1, (1, (1, (0,)))))))
        told = term_piece(ROWS, term)
        self.plain(told)
        self.assertEqual((told[0], len(told[1])), (1, 181))
        self.assertEqual(told, right_piece(ROWS, term))
        self.check(True, fits_tree, told, (0,))
        self.refused(TooGreat, {"most": 12}, alphabet_of, ROWS)
        self.refused(TooGreat, {"most": 12}, lot_of, told)
        self.refused(TooGreat, {"most": 200}, term_piece, ROWS, (1, term))
        self.refused(TooGreat, {"most": 200}, term_piece, ROWS, deep(1, 40, (0,)))
        self.refused(BadTerm, {"path": (0,) * 5}, term_piece, ROWS, deep(1, 6, (2,)))
        self.refused(BadLetter, {"number": 1}, term_piece, (ROWS[0], (1, (1,), CAP)), None)

    def test_units_within_bounds(self):
        for units in (1, 5, 12):
            rows = (ROWS[0], (1, (1,), chain(units)))
            alphabet = alphabet_of(rows)
            self.assertEqual(alphabet, ((1, (), ((0,),)), (1, (1,), ((0, 0),))))
            for depth in (1, 2, 3):
                term = deep(1, depth, (0,))
                self.assertEqual(term_piece(rows, term), right_piece(rows, term))
                self.check(((0,),), term_lot, alphabet, term)
                self.check(0, state_of, alphabet, term)

    def test_sound_letters(self):
        chance = random.Random(701)
        for _ in range(120):
            rows = some_rows(chance, True)
            alphabet = alphabet_of(rows)
            self.assertEqual(alphabet, tuple((up, downs, brute.lot(piece)) for up, downs, piece in rows))
            states = all_states(alphabet)
            for term in some_terms(chance, rows, 6):
                piece = term_piece(rows, term)
                self.assertEqual(piece, right_piece(rows, term))
                lot = term_lot(alphabet, term)
                if len(piece[1]) > 20 or piece[1].count("either") > 8:
                    continue
                right = brute.lot(piece)
                self.assertEqual(lot, right)
                self.check(right is not None, is_sound, piece)
                barred = [setting for setting in brute.settings(piece) if brute.left(piece, setting) is None]
                self.check(min(barred) if barred else None, bad_setting, piece)
                if right is None:
                    self.refused(NotSound, {"setting": min(barred)}, lot_of, piece)
                else:
                    self.check(right, lot_of, piece)
                up, closed, _ = states[state_of(alphabet, term)]
                self.assertEqual((up, closed), (piece[0], None if right is None else brute.closed(right, piece[0])))
                # What a piece of a term fits is told by its state.
                for row in all_of(piece[0]):
                    fits = closed is not None and all(brute.meets(row, other) for other in closed)
                    self.check(fits, fits_tree, piece, row)

    def test_pieces_of_great_terms(self):
        # Which tree pieces they fit is told by melting and by the state of the term.
        chance = random.Random(704)
        most = 0
        fitting = 0
        for _ in range(60):
            rows = some_rows(chance, True)
            alphabet = alphabet_of(rows)
            states = all_states(alphabet)
            for _ in range(4):
                term = self.great_term(chance, rows, chance.choice(rows)[0], 12)
                if term is None:
                    continue
                try:
                    piece = term_piece(rows, term)
                except TooGreat:
                    continue
                most = max(most, len(piece[1]))
                up, lot, _ = states[state_of(alphabet, term)]
                for row in all_of(up):
                    fits = lot is not None and all(brute.meets(row, other) for other in lot)
                    fitting += fits
                    self.check(fits, fits_tree, piece, row)
        self.assertGreater(most, 60)
        self.assertGreater(fitting, 20)

    def great_term(self, chance, rows, width, depth):
        """Some term with this width, with as many letters as can be, None if none is found."""
        letters = [letter for letter, (up, _, _) in enumerate(rows) if up == width]
        chance.shuffle(letters)
        if depth > 0:
            letters.sort(key=lambda letter: -len(rows[letter][1]) if chance.random() < 0.8 else 0)
        for letter in letters:
            downs = rows[letter][1]
            if depth > 0 or not downs:
                inner = [self.great_term(chance, rows, down, min(depth - 1, 3) if at else depth - 1)
                         for at, down in enumerate(downs)]
                if None not in inner:
                    return (letter, *inner)
        return None

    def test_alike_pieces_and_equal_states(self):
        chance = random.Random(705)
        seen = {True: 0, False: 0}
        for _ in range(80):
            rows = some_rows(chance, True)
            alphabet = alphabet_of(rows)
            terms = some_terms(chance, rows, 4)
            for one in terms:
                for two in terms:
                    pieces = term_piece(rows, one), term_piece(rows, two)
                    if pieces[0][0] != pieces[1][0] or max(piece[1].count("either") for piece in pieces) > 12:
                        continue
                    same = state_of(alphabet, one) == state_of(alphabet, two)
                    self.assertEqual(parted(*pieces) is None, same)
                    seen[same] += one != two
        self.assertGreater(seen[True], 10)
        self.assertGreater(seen[False], 5)

    def test_any_letters(self):
        chance = random.Random(702)
        loops = 0
        for _ in range(200):
            rows = some_rows(chance, False)
            first = [setting for _, _, piece in rows for setting in brute.settings(piece)
                     if brute.left(piece, setting) is None]
            for up, downs, piece in rows:
                barred = [setting for setting in brute.settings(piece) if brute.left(piece, setting) is None]
                if barred:
                    self.refused(NotSound, {"setting": min(barred)}, alphabet_of, rows)
                    break
            self.assertEqual(first == [], all(brute.lot(piece) is not None for _, _, piece in rows))
            for term in some_terms(chance, rows, 6):
                told = term_piece(rows, term)
                self.assertEqual(told, right_piece(rows, term))
                loops += len(told[1]) > sum(len(rows[letter][2][1]) for letter in self.letters(term))
        self.assertGreater(loops, 10)

    def letters(self, term):
        return [term[0]] + [letter for inner in term[1:] for letter in self.letters(inner)]

    def test_loops_at_bundles(self):
        # Loops come at the first bundle and at the second one: their knots stand behind what is there.
        ring = (4, (), (((-1, 0), (-1, 3)), ((-1, 1), (-1, 2))))
        line = (2, (), (((-1, 0), (-1, 1)),))
        rows = ((2, (2,), ring), (2, (), line), (1, (2, 2), (5, ("either",), (
            ((-1, 0), (0, 0)), ((0, 1), (0, 2)), ((-1, 1), (-1, 2)), ((-1, 3), (-1, 4))))), (2, (), (2, ("both", "either"), (
                ((-1, 0), (0, 0)), ((-1, 1), (0, 1)), ((0, 2), (1, 0)), ((1, 1), (1, 2))))))
        for term in ((2, (1,), (3,)), (2, (3,), (1,)), (2, (0, (1,)), (0, (0, (3,)))), (2, (1,), (1,)), (0, (1,))):
            self.assertEqual(term_piece(rows, term), right_piece(rows, term))
        self.assertEqual(term_piece(rows, (2, (1,), (3,)))[1], ("either", "both", "both", "both", "either"))

    def test_two_hundred_knots(self):
        doors, sorts, lines = chain(25)
        more = [tuple((-1, 2 + place) if knot == -1 else (knot + 50, place) for knot, place in line) for line in lines]
        # Doors 0 and 1 are those of one chain, 2 and 3 those of another one.
        rows = ((2, (), (2, (), (((-1, 0), (-1, 1)),))), (2, (2,), (4, sorts * 2, lines + tuple(more))), (2, (), chain(1)))
        self.assertEqual(doors, 2)
        term = (1, (1, (0,)))
        told = term_piece(rows, term)
        self.assertEqual(len(told[1]), 200)
        self.assertEqual(told, right_piece(rows, term))
        self.refused(TooGreat, {"most": 200}, term_piece, rows, (1, (1, (2,))))

    def test_partings_into(self):
        for doors in range(1, 8):
            for blocks in range(1, doors + 1):
                self.assertEqual(partings_into(doors, blocks), tuple(row for row in all_of(doors) if max(row) + 1 == blocks))

    def test_few_rows(self):
        # No time is promised; but checks over many thousand terms have to come to an end.
        start = time.process_time()
        term = deep(1, 6, (0,))
        for _ in range(100):
            term_piece(ROWS, term)
        chance = random.Random(703)
        for _ in range(50):
            rows = some_rows(chance, True)
            alphabet = alphabet_of(rows)
            for term in some_terms(chance, rows, 6):
                for _ in range(5):
                    piece = term_piece(rows, term)
                    term_lot(alphabet, term)
                    state_of(alphabet, term)
                    if piece[1].count("either") < 13:
                        is_sound(piece)
        self.assertLess(time.process_time() - start, 10)
