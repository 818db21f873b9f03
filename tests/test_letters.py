"""Point 48: letters, alphabets, terms, and the pieces of terms."""

import random

from fittingdoors.errors import BadLetter, BadTerm, NotSound, TooGreat
from fittingdoors.joining import joined
from fittingdoors.letters import alphabet_of, need_alphabet, need_term, term_piece
from fittingdoors.makers import knot_piece, tree_piece
from fittingdoors.pieces import plain_piece
from tests import brute
from tests.brute import TestCase, all_of, wrong_kinds

A = ((2, (), ((0, 0),)), (2, (2,), ((0, 0, 0, 1),)), (2, (), ((0, 1),)))
# UP 1; with bundles of one and two doors; with two bundles of one door.
B = ((1, (), ((0,),)), (2, (), ((0, 0),)), (1, (1, 2), ((0, 0, 1, 2),)), (1, (1, 1), ((0, 1, 0),)))
LINE = (2, (), (((-1, 1), (-1, 0)),))


def deep(letter, depth, last):
    """A term of one letter upon another."""
    term = last
    for _ in range(depth - 1):
        term = (letter, term)
    return term


def wide(many):
    """A term of B with so many letters, an odd number of them, as flat as can be."""
    rows = [(0,)] * ((many + 1) // 2)
    while len(rows) > 1:
        pairs = [(3, rows[at], rows[at + 1]) for at in range(0, len(rows) - 1, 2)]
        rows = pairs + rows[2 * len(pairs):]
    return rows[0]


def right_piece(rows, term):
    """The piece of a term, put together from what stands below."""
    up, downs, piece = rows[term[0]]
    told = plain_piece(piece)
    for width, inner in zip(downs, term[1:]):
        told = joined(told, right_piece(rows, inner), tuple((up + door, door) for door in range(width)))
    return told


class AlphabetTests(TestCase):
    def test_right_ones(self):
        chance = random.Random(201)
        for alphabet in (A, B, A[:1], B * 1, (A[0],) * 6, ((5, (1,), all_of(6)),), ((1, (5,), ((0,) * 6,)),),
                         ((1, (1, 4), ((0,) * 6,)),), ((2, (2, 2), (tuple(range(6)),)),), ((5, (), ((0,) * 5,)),)):
            self.check(alphabet, need_alphabet, alphabet)
        for _ in range(50):
            alphabet = brute.random_alphabet(chance, 6)
            self.check(alphabet, need_alphabet, alphabet=alphabet)

    def test_refused(self):
        for value in [*wrong_kinds(), 0, (), A + A + A[:1]]:
            self.refused(BadLetter, {"number": None}, need_alphabet, value)
        bad = [*wrong_kinds(), 0, (), (2, ()), (2, (), ((0, 0),), ()), [2, (), ((0, 0),)], (0, (), ((0,),)),
               (6, (), ((0,) * 6,)), (True, (), ((0,),)), (None, (), ()), (2, None, ((0, 0),)), (2, [], ((0, 0),)),
               (1, 1, ((0, 0),)), (1, (0,), ((0,),)), (1, (True,), ((0, 0),)), (1, (1, 1, 1), ((0,) * 4,)),
               (1, (6,), ((0,) * 7,)), (2, (5,), ((0,) * 7,)), (2, (2, 3), ((0,) * 7,)), (1, ("1",), ((0, 0),)),
               (2, (), ()), (2, (), None), (2, (), [(0, 0)]), (2, (), ((0,),)), (2, (1,), ((0, 0),)),
               (2, (), ((0, 1), (0, 0))), (2, (), ((0, 0), (0, 0))), (2, (), ((0, 2),)), (2, (), (None,))]
        for letter in bad:
            self.refused(BadLetter, {"number": 0}, need_alphabet, (letter,))
            self.refused(BadLetter, {"number": 2}, need_alphabet, (A[0], A[1], letter, None))


class TermTests(TestCase):
    def test_right_ones(self):
        for alphabet in (A, B):
            for term in brute.all_terms(alphabet, 5):
                self.check(term, need_term, alphabet, term)
        self.check((1, (1, (0,))), need_term, alphabet=A, term=(1, (1, (0,))))

    def test_wrong_things(self):
        for value in [*wrong_kinds(), 0, (), (3,), (-1,), (True,), (None,), ("0",), (0, (0,)), (1,), (1, (0,), (0,)),
                      ((0,),), (10 ** 999,), [0]]:
            self.refused(BadTerm, {"path": ()}, need_term, A, value)
            self.refused(BadTerm, {"path": (0,)}, need_term, A, (1, value))
            self.refused(BadTerm, {"path": (0, 0, 0)}, need_term, A, deep(1, 4, value))
        for value in [None, (), (4,), (0, (0,)), (2, (0,)), (3,)]:
            self.refused(BadTerm, {"path": (0,)}, need_term, B, (3, value, value))
            self.refused(BadTerm, {"path": (1,)}, need_term, B, (3, (0,), value))
            # What is ahead from the left, however deep, is told ahead of what is further right.
            self.refused(BadTerm, {"path": (0, 1, 1)}, need_term, B, (3, (3, (0,), (3, (0,), value)), None))
            self.refused(BadTerm, {"path": (1, 0)}, need_term, B, (3, (3, (0,), (0,)), (3, value, None)))

    def test_widths(self):
        self.refused(BadTerm, {"path": (0,)}, need_term, B, (2, (1,), (1,)))
        self.refused(BadTerm, {"path": (1,)}, need_term, B, (2, (0,), (0,)))
        self.check((2, (0,), (1,)), need_term, B, (2, (0,), (1,)))
        self.refused(BadTerm, {"path": (1,)}, need_term, B, (3, (0,), (1,)))
        # Any letter may stand at the begin.
        for term in ((0,), (1,)):
            self.check(term, need_term, B, term)

    def test_depth(self):
        self.check(deep(1, 40, (0,)), need_term, A, deep(1, 40, (0,)))
        self.refused(BadTerm, {"path": (0,) * 40}, need_term, A, deep(1, 41, (0,)))
        self.refused(BadTerm, {"path": (0,) * 40}, need_term, A, deep(1, 45, (0,)))
        self.refused(BadTerm, {"path": (0,) * 40}, need_term, A, deep(1, 41, None))
        self.refused(BadTerm, {"path": (0,) * 39}, need_term, A, deep(1, 40, None))
        left = (0,)
        for _ in range(40):
            left = (3, (0,), left)
        self.refused(BadTerm, {"path": (1,) * 39 + (0,)}, need_term, B, left)
        # Something wrong further left is told ahead of the 41st term.
        self.refused(BadTerm, {"path": (0,)}, need_term, B, (3, None, left))
        self.check(left[2], need_term, B, left[2])

    def test_number_of_letters(self):
        # With bundles of one and of two doors: 199 letters and one more.
        self.check(wide(199), need_term, B, wide(199))
        one = ((1, (), ((0,),)), (1, (1,), ((0, 1),)), (1, (1, 1), ((0, 1, 2),)))

        def moved(term):
            return (2, moved(term[1]), moved(term[2])) if len(term) == 3 else (0,)

        for more in (0, 1):
            term = moved(wide(199))
            for _ in range(more):
                term = (1, term)
            self.check(term, need_term, one, term)
        self.refused(BadTerm, {"path": None}, need_term, one, moved(wide(201)))
        self.refused(BadTerm, {"path": None}, need_term, one, (1, (1, moved(wide(199)))))
        # A wrong thing, however far right, is told ahead of too many letters.
        self.refused(BadTerm, {"path": (1,)}, need_term, one, (2, moved(wide(201)), (7,)))

    def test_alphabets_come_first(self):
        self.refused(BadLetter, {"number": None}, need_term, None, None)
        self.refused(BadLetter, {"number": 1}, need_term, (A[0], None), None)

    def test_without_any_term(self):
        alphabet = ((1, (1,), ((0, 0),)),)
        self.refused(BadTerm, {"path": (0,)}, need_term, alphabet, (0, None))
        self.refused(BadTerm, {"path": (0,) * 40}, need_term, alphabet, deep(0, 42, (0,)))


class RowTests(TestCase):
    def test_alphabet_of(self):
        chance = random.Random(202)
        for _ in range(60):
            rows = []
            for _ in range(chance.randrange(1, 7)):
                up = chance.randrange(1, 4)
                downs = tuple(chance.randrange(1, 3) for _ in range(chance.randrange(3)))
                if up + sum(downs) > 6:
                    downs = ()
                rows.append((up, downs, brute.sound_piece(chance, up + sum(downs), 5)))
            right = tuple((up, downs, brute.lot(piece)) for up, downs, piece in rows)
            self.check(right, alphabet_of, tuple(rows))
        self.check(((2, (1,), ((0, 1, 0), (0, 1, 1))),), alphabet_of, rows=((2, (1,), knot_piece("either")),))

    def test_bad_rows(self):
        both = knot_piece("both")
        for call in (alphabet_of, lambda rows: term_piece(rows, None)):
            for value in [*wrong_kinds(), 0, (), ((3, (), both),) * 7]:
                self.refused(BadLetter, {"number": None}, call, value)
            for row in [*wrong_kinds(), 0, (), (3, both), (3, (), both, ()), [3, (), both], (4, (), both), (2, (), both),
                        (2, (2,), both), (0, (3,), both), (True, (2,), both), (1, (1, 1, 1), tree_piece((0,) * 4)),
                        (3, None, both), (3, (), None), (3, (), (3, (), ())), (3, (), ((0, 0, 0),)),
                        (6, (), tree_piece((0,) * 6)), (2, (5,), tree_piece((0,) * 7)), (1, (2, 0), both)]:
                self.refused(BadLetter, {"number": 0}, call, (row,))
                self.refused(BadLetter, {"number": 1}, call, ((3, (), both), row, None))

    def test_row_by_row(self):
        great = (1, ("either",) * 13, tuple(
            [((-1, 0), (0, 2))] + [line for knot in range(12) for line in (((knot, 0), (knot + 1, 2)),)]
            + [((12, 0), (0, 1))] + [((knot, 1), (knot + 1, 1)) for knot in range(1, 12, 2)]))
        self.assertEqual(2 * len(great[2]), 40)
        both = (1, ("both",), (((-1, 0), (0, 2)), ((0, 0), (0, 1))))
        # Not sound, with a least barred setting of its own.
        bad = (1, ("either", "both", "both"), (((-1, 0), (0, 2)), ((0, 0), (1, 2)), ((1, 0), (2, 0)), ((0, 1), (2, 1)),
                                             ((1, 1), (2, 2))))
        setting = min(one for one in brute.settings(bad) if brute.left(bad, one) is None)
        good = knot_piece("either")
        self.refused(TooGreat, {"most": 12}, alphabet_of, ((1, (2,), good), (1, (), great), (1, (), both)))
        self.refused(NotSound, {"setting": ()}, alphabet_of, ((1, (2,), good), (1, (), both), (1, (), great)))
        self.refused(NotSound, {"setting": setting}, alphabet_of, ((1, (), bad), (1, (), both)))
        self.refused(BadLetter, {"number": 2}, alphabet_of, ((1, (), great), (1, (), both), None))

    def test_term_piece(self):
        chance = random.Random(203)
        for _ in range(60):
            rows = [(1, (), brute.random_piece(chance, 1, ("both",))), (2, (), brute.random_piece(chance, 2, ()))]
            rows += [(1, (2, 1), brute.random_piece(chance, 4, ("either", "both"))),
                     (2, (1,), brute.random_piece(chance, 3, ("either",))),
                     (1, (2,), brute.random_piece(chance, 3, ("both",)))]
            rows = tuple(rows)
            for term in chance.sample(brute.all_terms(rows, 6), 5):
                self.check(right_piece(rows, term), term_piece, rows, term)
        either = knot_piece("either")
        self.check(plain_piece(either), term_piece, rows=((1, (2,), either), (3, (), either)), term=(1,))

    def test_order_of_knots_and_loops(self):
        # The first letter's knots, those of the first bundle, loops, those of the second bundle, loops.
        lines = (((-1, 0), (0, 0)), ((-1, 1), (-1, 2)), ((-1, 3), (-1, 4)), ((0, 1), (0, 2)))
        rows = ((1, (2, 2), (5, ("either",), lines)), (2, (), (2, ("both", "both"), (
            ((-1, 0), (-1, 1)), ((0, 0), (0, 1)), ((0, 2), (1, 2)), ((1, 0), (1, 1))))), (2, (), LINE))
        told = term_piece(rows, (0, (1,), (2,)))
        self.assertEqual(told[1], ("either", "both", "both", "both", "both", "both", "both"))
        self.assertEqual(told[0], 1)
        self.check(told, right_piece, rows, (0, (1,), (2,)))
        self.assertEqual(term_piece(rows, (0, (2,), (2,)))[1], ("either",) + ("both",) * 4)

    def test_two_hundred_knots(self):
        rows = ((2, (), (2, ("both", "either"), (((-1, 0), (0, 0)), ((-1, 1), (0, 1)), ((0, 2), (1, 2)),
                                                 ((1, 0), (1, 1))))),
                (1, (), (1, ("either",), (((-1, 0), (0, 2)), ((0, 0), (0, 1))))),
                (1, (1, 1), (3, ("either",), tuple(((-1, at), (0, (2, 0, 1)[at])) for at in range(3)))),
                (1, (1,), (2, ("both",) * 2, (((-1, 0), (0, 0)), ((-1, 1), (1, 1)), ((0, 1), (1, 0)), ((0, 2), (1, 2))))),
                (1, (2,), knot_piece("both")))

        def wood(many):
            return (1,) if many == 1 else (2, wood(many // 2), wood(many - many // 2))

        term = wood(100)
        self.check(199, len, term_piece(rows, term)[1])
        self.refused(TooGreat, {"most": 200}, term_piece, rows, (3, term))
        self.refused(BadTerm, {"path": None}, term_piece, rows, wood(101))
        # Pieces with a great many knots, of which each may have two hundred.
        chance = random.Random(204)
        great = brute.standing_piece(chance, 200, 2)
        rows = ((1, (1,), great), (1, (), brute.standing_piece(chance, 1, 1)), (1, (1,), LINE))
        self.assertEqual((len(great[1]), len(rows[1][2][1])), (200, 1))
        self.refused(TooGreat, {"most": 200}, term_piece, rows, (0, (1,)))
        self.check(right_piece(rows, (2, (2, (1,)))), term_piece, rows, (2, (2, (1,))))
        # Loops count.
        rows = ((2, (2,), (4, great[1], great[2] + (((-1, 2), (-1, 3)),))), (2, (), LINE))
        self.refused(TooGreat, {"most": 200}, term_piece, rows, (0, (1,)))

    def test_terms_of_rows(self):
        rows = ((1, (2,), knot_piece("both")), (2, (), LINE))
        for value in [*wrong_kinds(), 0, (), (2,), (0,), (1, (1,))]:
            self.refused(BadTerm, {"path": ()}, term_piece, rows, value)
        self.refused(BadTerm, {"path": (0,)}, term_piece, rows, (0, (0, (1,))))
