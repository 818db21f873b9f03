"""Points 69 and 70: logs and sheets."""

import random
import re

from fittingdoors.benches import Bench
from fittingdoors.errors import BadForm, BadLot, BadName, BadNumber, BadParting, BadPiece, BadText, TooGreat
from fittingdoors.logs import log_text, read_log
from fittingdoors.makers import knot_piece
from fittingdoors.sheets import judged, sheet_entries
from fittingdoors.texts import form_text, lot_text, parting_text, piece_text
from tests import brute
from tests.brute import GREAT, TestCase, all_of, wrong_kinds
from tests.test_benches import BOTH, CAP, EITHER, EMPTY, LINE, LOOSE, MANY, Model
from tests.test_texts import END, LOT, PARTING, PIECE_FIRST, form_pattern

NUMBER = r"[1-9]\d?\d?"
TAG = NUMBER + r"\.(?:0|[1-9]\d?)"
LOG = (r"next " + NUMBER + r"(?:\nput " + NUMBER + r"\n- " + PIECE_FIRST + r"(?:\n- " + END + " " + END
       + r"){0,320}|\ntie " + NUMBER + " " + TAG + " " + TAG + ")*")
NAME = "[a-z]{1,12}"


def put_in(pattern):
    """A pattern of lines with what stands ahead of each."""
    return "- " + pattern.replace(r"\n", r"\n- ")


ENTRY = "(?:" + "|".join((f"parting {NAME}\n- {PARTING}", f"lot {NAME}\n(?:" + "|".join(map(put_in, LOT.split("|"))) + ")",
                          f"piece {NAME}\n- {PIECE_FIRST}(?:\n- {END} {END}){{0,320}}",
                          f"form {NAME}\n- {form_pattern(2)}", f"bench {NAME}\n{put_in(LOG)}")) + ")"
VERDICT = "(?:" + "|".join((f"(?:meets|turned|fits|alike|for|has|looser|whole) {NAME} {NAME}",
                            f"(?:stands|finishes) {NAME}", f"between {NAME} {NAME} {NAME}")) + ")"
SHEET = f"(?:{ENTRY}\n)*{VERDICT}(?:\n{VERDICT})*"
LOG_TAILS = ([], ["next 1"], ["- 0"])
SHEET_TAILS = ([], ["stands a"], ["- 0", "stands a"], ["- 1", "stands a"], ["- next 1", "stands a"], ["- - 0", "stands a"])


def right_line(text, pattern, tails):
    """The number of the first wrong line, None of a text that can be read."""
    def full(lines):
        return re.fullmatch(pattern, "\n".join(lines)) is not None

    lines = text.split("\n")
    if full(lines):
        return None
    for at in range(len(lines)):
        if not any(full(lines[:at + 1] + tail) for tail in tails):
            return at
    return len(lines)


def some_bench(chance, many=10):
    bench, model = Bench(), Model()
    for _ in range(many):
        model.do(unittest_case, chance, bench)
    return bench


class Case(TestCase):
    def runTest(self):
        pass


unittest_case = Case()


def right_log(bench):
    lines = [f"next {bench.next_number()}"]
    for word, number, *rest in bench.deeds():
        if word == "put":
            lines += [f"put {number}"] + ["- " + line for line in piece_text(rest[0]).split("\n")]
        else:
            lines.append(f"tie {number} {rest[0][0]}.{rest[0][1]} {rest[1][0]}.{rest[1][1]}")
    return "\n".join(lines)


def lines_changed(chance, text, more):
    """The text with lines left out, put twice, exchanged, changed, or with some more."""
    lines = text.split("\n")
    for _ in range(chance.randrange(1, 3)):
        at = chance.randrange(len(lines))
        kind = chance.randrange(6)
        if kind == 0 and len(lines) > 1:
            del lines[at]
        elif kind == 1:
            lines.insert(at, lines[at])
        elif kind == 2:
            lines.insert(at, chance.choice(more))
        elif kind == 3:
            lines[at] = chance.choice(more)
        elif kind == 4:
            other = chance.randrange(len(lines))
            lines[at], lines[other] = lines[other], lines[at]
        else:
            spot = chance.randrange(len(lines[at]) + 1)
            lines[at] = lines[at][:spot] + chance.choice(" 0123456789abdlrwx.-+*()") + lines[at][spot + 1:]
    return "\n".join(lines)


class LogTests(TestCase):
    def same(self, bench, other):
        self.assertIs(type(other), Bench)
        self.assertEqual(other.deeds(), bench.deeds())
        self.assertEqual(other.next_number(), bench.next_number())
        self.assertEqual(other.doors(), bench.doors())
        self.assertEqual(other.whole() if len(bench.doors()) < 41 else None,
                         bench.whole() if len(bench.doors()) < 41 else None)

    def test_there_and_back(self):
        chance = random.Random(631)
        for _ in range(60):
            bench = some_bench(chance, chance.randrange(16))
            self.check(right_log(bench), log_text, bench)
            other = read_log(text=right_log(bench))
            self.same(bench, other)
            # What is read goes on as a bench does.
            number = other.put(CAP)
            self.assertEqual(number, bench.put(CAP))
            tags = bench.doors()
            if len(tags) > 1:
                self.assertEqual(other.tie(tags[0], tags[1]), bench.tie(tags[0], tags[1]))
                self.same(bench, other)

    def test_example(self):
        bench = Bench()
        self.check("next 1", log_text, bench=bench)
        bench.put(BOTH)
        bench.put(EMPTY)
        bench.tie((1, 2), (1, 0))
        text = "next 4\nput 1\n- 3 both\n- d0 0l\n- d1 0r\n- d2 0w\nput 2\n- 0\ntie 3 1.0 1.2"
        self.check(text, log_text, bench)
        self.same(bench, read_log(text))
        # The tags of a tie may stand in either order.
        self.same(bench, read_log(text.replace("1.0 1.2", "1.2 1.0")))
        self.same(Bench(), read_log("next 1"))
        self.assertNotEqual(read_log("next 1"), read_log("next 1"))

    def test_numbers_that_are_left_out(self):
        bench = read_log("next 401\nput 3\n- 2\n- d1 d0\nput 400\n- 1 either\n- d0 0w\n- 0l 0r")
        self.assertEqual(bench.deeds(), (("put", 3, (2, (), (((-1, 1), (-1, 0)),))), (
            "put", 400, (1, ("either",), (((-1, 0), (0, 2)), ((0, 0), (0, 1)))))))
        self.refused(TooGreat, {"most": 400}, bench.put, EMPTY)
        self.check(401, bench.next_number)

    def test_too_long(self):
        bench = Bench()
        piece = brute.random_piece(random.Random(632), 40, [])
        while True:
            bench.put(piece)
            text = right_log(bench)
            if len(text) > 20000:
                break
            self.check(text, log_text, bench)
        self.refused(TooGreat, {"most": 20000}, log_text, bench)
        self.same(bench, read_log(text))

    def test_longest_text(self):
        # Logs with just 20,000 characters, and with one more.
        for length in (20000, 20001):
            bench = Bench()
            for _ in range(99):
                bench.back(bench.put(EMPTY))
            wide = brute.random_piece(random.Random(636), 40, [])
            while len(right_log(bench)) < length - 600:
                bench.put(wide)
            left = length - len(right_log(bench))
            counts = [(a, b, c) for a in range(30) for b in range(30) for c in range(20) if 12 * a + 20 * b + 35 * c == left]
            for piece, many in zip((EMPTY, LINE, CAP), counts[0]):
                for _ in range(many):
                    bench.put(piece)
            text = right_log(bench)
            self.assertEqual(len(text), length)
            if length == 20000:
                self.check(text, log_text, bench)
                self.same(bench, read_log(text))
            else:
                self.refused(TooGreat, {"most": 20000}, log_text, bench)

    def one(self, text):
        line = right_line(text, LOG, LOG_TAILS)
        if line is None:
            return 0
        self.refused(BadText, {"line": line, "column": 0}, read_log, text)
        return 1

    def test_changed_logs(self):
        chance = random.Random(633)
        more = ["next 3", "put 2", "put 0", "tie 3 1.0 2.0", "tie 3 1.0", "- 0", "- 3 both", "- d0 0l", "- d0", "- ", "-", "",
                "put", "next 01", "tie 1 01.0 2.0", "tie 1 1.00 2.0", "put 1000", "- - 0", " put 1", "put 1 ", "tie 0 1.0 1.1"]
        refused = sum(self.one(lines_changed(chance, right_log(some_bench(chance, 8)), more)) for _ in range(400))
        self.assertGreater(refused, 200)

    def test_lines(self):
        for text, line in (("", 0), ("x", 0), ("next", 0), ("next 0", 0), ("next 1\n", 1), ("next 1\n\n", 1),
                           ("next 1\nput 1", 2), ("next 2\nput 1\n", 2), ("next 2\nput 1\nput 2", 2), ("\nnext 1", 0),
                           ("next 2\nput 1\n- ", 2), ("next 2\nput 1\n- 0\n- d0", 3), ("next 2\nput 1\n- 0\n0", 3),
                           ("next 2\nput 1\n0", 2), ("next 1000", 0), ("next 1\nnext 1", 1), ("next 1\n- 0", 1),
                           ("next 9\nput 1\n- 41", 2), ("next 2\ntie 1 1.0", 1), ("next 2\ntie 1 1.0 1.100", 1)):
            self.refused(BadText, {"line": line, "column": 0}, read_log, text)
            self.assertEqual(right_line(text, LOG, LOG_TAILS), line)
        # A piece with one line too many.
        piece = brute.random_piece(random.Random(634), 40, ["either"] * 200)
        text = "next 2\nput 1\n" + "\n".join("- " + line for line in piece_text(piece).split("\n"))
        self.assertEqual(read_log(text).deeds(), (("put", 1, piece),))
        self.refused(BadText, {"line": 323, "column": 0}, read_log, text + "\n- d0 d1")
        self.refused(BadText, {"line": 2, "column": 0}, read_log, text.replace("- 40 ", "- 40 both "))

    def test_numbers(self):
        put = "\nput {}\n- 2\n- d0 d1"
        for following in (402, 500, 999):
            self.refused(BadNumber, {"value": following}, read_log, f"next {following}\nput 1\n- 1")
        for text, number in (("next 1" + put.format(1), 1), ("next 3" + put.format(2) + put.format(2), 2),
                             ("next 4" + put.format(3) + put.format(2), 2), ("next 4" + put.format(4), 4),
                             ("next 4" + put.format(1) + "\ntie 1 1.0 1.1", 1), ("next 4\ntie 2 1.0 1.1", 2),
                             ("next 4" + put.format(1) + "\ntie 4 1.0 1.1", 4),
                             ("next 4" + put.format(1) + "\ntie 2 1.0 1.2", 2),
                             ("next 4" + put.format(1) + "\ntie 2 1.0 1.0", 2),
                             ("next 4\ntie 1 2.0 2.1" + put.format(2), 1),
                             ("next 5" + put.format(1) + "\ntie 2 1.0 1.1\ntie 3 1.1 1.0", 3),
                             ("next 5" + put.format(1) + "\ntie 2 3.0 1.1" + put.format(3), 2)):
            self.refused(BadNumber, {"value": number}, read_log, text)
        # Deed by deed: the piece, its number, and the knots.
        self.refused(BadPiece, {"word": "ends", "place": None}, read_log, "next 2\nput 9\n- 1")
        self.refused(BadNumber, {"value": 9}, read_log, "next 2" + put.format(9) + "\nput 1\n- 1")
        self.refused(BadNumber, {"value": 402}, read_log, "next 402\nput 9\n- 1")
        self.refused(BadText, {"line": 3, "column": 0}, read_log, "next 402\nput 9\n- 1\nx")

    def test_too_many_knots(self):
        piece = "\n".join("- " + line for line in piece_text(brute.random_piece(
            random.Random(635), 0, ["either"] * 100)).split("\n"))
        text = f"next 9\nput 1\n{piece}\nput 2\n{piece}"
        self.assertEqual(len(read_log(text).deeds()), 2)
        cap = "\n".join("- " + line for line in piece_text(CAP).split("\n"))
        self.refused(TooGreat, {"most": 200}, read_log, f"{text}\nput 3\n{cap}")
        self.refused(BadNumber, {"value": 2}, read_log, f"{text}\nput 2\n{cap}")
        self.refused(TooGreat, {"most": 200}, read_log, f"{text}\nput 3\n{cap}\nput 4\n- 1")
        self.refused(BadPiece, {"word": "ends", "place": None}, read_log, f"{text}\nput 3\n- 1\nput 4\n{cap}")

    def test_no_strings(self):
        for value in [*(one for one in wrong_kinds() if not isinstance(one, str)), 0, (), GREAT]:
            self.refused(BadText, {"line": None, "column": None}, read_log, value)


def entry(sort, name, text):
    return "\n".join([f"{sort} {name}"] + ["- " + line for line in text.split("\n")])


P = parting_text((0, 0, 1))
SHEET_TEXT = "\n".join([entry("parting", "p", P), entry("parting", "q", "0 1 1"), entry("lot", "l", lot_text(((0, 0),), 2)),
                        entry("lot", "k", lot_text(((0, 1),), 2)), entry("piece", "a", piece_text(BOTH)),
                        entry("piece", "b", piece_text(EITHER)), entry("piece", "c", piece_text(LOOSE)),
                        entry("form", "f", "(0 * 1)"), entry("form", "g", "(1 + 0)"), entry("bench", "w", "next 1")])


class SheetTests(TestCase):
    def test_entries(self):
        bench = some_bench(random.Random(641), 12)
        text = "\n".join([SHEET_TEXT, entry("bench", "v", log_text(bench)), "stands a"])
        told = sheet_entries(text)
        self.assertEqual(told[:9], (
            ("parting", "p", (0, 0, 1)), ("parting", "q", (0, 1, 1)), ("lot", "l", (((0, 0),), 2)),
            ("lot", "k", (((0, 1),), 2)), ("piece", "a", BOTH), ("piece", "b", EITHER), ("piece", "c", LOOSE),
            ("form", "f", ("both", 0, 1)), ("form", "g", ("either", 1, 0))))
        self.plain(told[:9])
        self.assertIs(type(told), tuple)
        self.assertEqual([row[:2] for row in told[9:]], [("bench", "w"), ("bench", "v")])
        self.assertEqual(told[9][2].deeds(), ())
        self.assertEqual(told[10][2].deeds(), bench.deeds())
        self.assertEqual(told[10][2].next_number(), bench.next_number())
        self.check((), sheet_entries, text="stands a")

    def test_there_and_back(self):
        chance = random.Random(642)
        for _ in range(40):
            lines = []
            right = []
            for at in range(chance.randrange(6)):
                name = "abcdefghijkl"[:chance.randrange(1, 12)] + "xyzuvw"[at]
                doors = chance.randrange(1, 6)
                lot = brute.random_lot(chance, doors)
                form = brute.random_form(chance, chance.sample(range(doors), doors))
                row = brute.parting([chance.randrange(doors) for _ in range(doors)])
                piece = brute.random_piece(chance, doors, ["both"] * (doors % 2))
                sort, thing, text = chance.choice((
                    ("parting", row, parting_text(row)), ("lot", (lot, doors), lot_text(lot, doors)),
                    ("piece", piece, piece_text(piece)), ("form", form, form_text(form))))
                name = name[:12]
                lines.append(entry(sort, name, text))
                right.append((sort, name, thing))
            self.check(tuple(right), sheet_entries, "\n".join(lines + ["meets a b", "finishes c"]))
            self.check((False, False), judged, "\n".join(lines + ["meets n n", "finishes n"]))

    def verdicts(self, lines):
        """Each of these verdicts on the sheet above, with what it is."""
        told = judged("\n".join([SHEET_TEXT, *[line for line, _ in lines]]))
        self.plain(told)
        for (line, right), one in zip(lines, told):
            self.assertIs(one, right, line)
        self.assertEqual(len(told), len(lines))

    def test_verdicts(self):
        self.verdicts([("meets p q", True), ("meets p p", False), ("turned l k", True), ("turned k l", True),
                       ("turned l l", False), ("stands c", False), ("stands a", False), ("fits a a", False),
                       ("fits a b", False), ("fits b a", False), ("alike a a", True), ("alike a b", False),
                       ("for a a", True), ("for b a", False), ("for a b", False), ("has a l", False), ("looser f f", True),
                       ("looser f g", False), ("looser g f", False), ("between l f k", True), ("between k g l", True),
                       ("between l g k", False), ("whole w c", False), ("finishes w", False)])

    def test_sorts_and_names(self):
        # A name of no entry, or of one of another sort.
        self.verdicts([("meets p z", False), ("meets p a", False), ("meets l k", False), ("turned p q", False),
                       ("stands p", False), ("stands w", False), ("alike a p", False), ("has l a", False),
                       ("looser a b", False), ("between f l k", False), ("between l f f", False), ("whole a w", False),
                       ("whole w w", False), ("finishes a", False), ("finishes z", False), ("meets pp q", False)])

    def one_verdict(self, entries, verdict):
        (told,) = judged("\n".join([entry(*row) for row in entries] + [verdict]))
        return told

    def test_verdicts_on_much(self):
        chance = random.Random(643)
        seen = {}
        for _ in range(150):
            doors = chance.randrange(1, 5)
            p, q = chance.choice(all_of(doors)), chance.choice(all_of(chance.choice((doors, doors, doors, 3))))
            self.note(seen, "meets", len(p) == len(q) and brute.in_tree(p, q), [("parting", "p", parting_text(p)),
                                                                              ("parting", "q", parting_text(q))], "meets p q")
            lot = brute.random_lot(chance, doors)
            other = brute.turned(lot, doors) if chance.random() < 0.5 else brute.random_lot(chance, doors)
            lots = [("lot", "l", lot_text(lot, doors)), ("lot", "k", lot_text(other, doors))]
            self.note(seen, "turned", brute.turned(lot, doors) == other, lots, "turned l k")
            one = brute.sound_piece(chance, doors, 4)
            two = brute.sound_piece(chance, doors, 4) if chance.random() < 0.5 else one
            pieces = [("piece", "a", piece_text(one)), ("piece", "b", piece_text(two))]
            here, there = brute.lot(one), brute.lot(two)
            guards = [set(brute.turned(rows, doors)) for rows in (here, there)]
            self.note(seen, "fits", all(brute.meets(p, q) for p in here for q in there), pieces, "fits a b")
            self.note(seen, "alike", guards[0] == guards[1], pieces, "alike a b")
            self.note(seen, "for", guards[1] <= guards[0], pieces, "for a b")
            self.note(seen, "has", True, [pieces[0], ("lot", "l", lot_text(here, doors))], "has a l")
            self.note(seen, "has", here == lot, [pieces[0], ("lot", "l", lot_text(lot, doors))], "has a l")
            form = brute.random_form(chance, chance.sample(range(doors), doors))
            rows = [row[2] for row in brute.steps_of(form)] + [brute.random_form(chance, list(range(doors)))]
            after = chance.choice(rows)
            forms = [("form", "f", form_text(form)), ("form", "g", form_text(after))]
            right = set(brute.turned(brute.form_lot(form), doors)) <= set(brute.turned(brute.form_lot(after), doors))
            self.note(seen, "looser", right, forms, "looser f g")
            guards = set(brute.turned(brute.form_lot(form), doors))
            right = set(here) <= set(brute.closed(brute.form_lot(form), doors)) and set(there) <= guards
            self.note(seen, "between", right, [forms[0], ("lot", "l", lot_text(here, doors)),
                                               ("lot", "k", lot_text(there, doors))], "between l f k")
            self.note(seen, "between", True, [forms[0], ("lot", "l", lot_text(brute.form_lot(form), doors)),
                                              ("lot", "k", lot_text(tuple(sorted(guards)), doors))], "between l f k")
        for word in ("meets", "turned", "fits", "alike", "for", "has", "looser", "between"):
            self.assertGreater(seen.get((word, True), 0), 5, word)
            self.assertGreater(seen.get((word, False), 0), 5, word)

    def note(self, seen, word, right, entries, verdict):
        self.assertIs(self.one_verdict(entries, verdict), right, (entries, verdict))
        seen[word, right] = seen.get((word, right), 0) + 1

    def test_verdicts_on_benches(self):
        chance = random.Random(644)
        seen = {}
        for _ in range(100):
            bench = some_bench(chance, 9)
            whole = bench.whole()
            lines = [tuple(chance.sample(line, 2)) for line in whole[2]]
            chance.shuffle(lines)
            log = ("bench", "w", log_text(bench))
            piece = (whole[0], whole[1], tuple(lines))
            self.note(seen, "whole", True, [log, ("piece", "a", piece_text(piece))], "whole w a")
            if len(lines) > 1:
                other = brute.swapped(chance, piece)
                right = {frozenset(line) for line in other[2]} == {frozenset(line) for line in lines}
                self.note(seen, "whole", right, [log, ("piece", "a", piece_text(other))], "whole w a")
            rows = [brute.left(whole, setting) for setting in brute.settings(whole)]
            try:
                right = bench.finishes()
                self.assertEqual(right, None not in rows)
            except TooGreat:
                right = False
            self.note(seen, "finishes", right, [log], "finishes w")
            if whole[0] == 0:
                self.note(seen, "stands", None not in rows, [("piece", "a", piece_text(whole))], "stands a")
        standing = brute.standing_piece(chance, 6)
        self.assertTrue(self.one_verdict([("piece", "a", piece_text(standing))], "stands a"))
        self.assertGreater(seen["finishes", True], 5)
        self.assertGreater(seen["finishes", False], 5)
        self.assertGreater(seen["whole", False], 5)

    def test_verdicts_on_unlike_numbers(self):
        entries = [("parting", "p", "0 0"), ("parting", "q", "0 1 1"), ("lot", "l", "2\n0 0"), ("lot", "k", "3\n0 1 1"),
                   ("lot", "none", "2"), ("lot", "nought", "3"), ("piece", "a", piece_text(LINE)),
                   ("piece", "b", piece_text(BOTH)), ("form", "f", "(0 * 1)"), ("form", "g", "((0 * 1) * 2)"),
                   ("lot", "one", "1"), ("lot", "all", "1\n0")]
        for verdict in ("meets p q", "turned l k", "turned none nought", "fits a b", "alike a b", "for a b", "has a k",
                        "looser f g", "between l f k", "between k f l", "between l g l", "between none f nought",
                        "between nought f none", "between nought f nought"):
            self.assertIs(self.one_verdict(entries, verdict), False)
        self.assertIs(self.one_verdict(entries, "turned one all"), True)

    def test_verdicts_on_what_is_too_great(self):
        great = brute.random_piece(random.Random(645), 1, ["either"] * 13)
        wide = brute.random_piece(random.Random(646), 8, [])
        six = brute.form_lot(("both", ("both", ("both", ("both", ("both", 0, 1), 2), 3), 4), 5))
        bench = Bench()
        for _ in range(21):
            bench.put(LINE)
        entries = [("piece", "a", piece_text(great)), ("piece", "b", piece_text(wide)), ("lot", "l", lot_text(six, 6)),
                   ("lot", "k", lot_text((), 6)), ("bench", "w", log_text(bench)), ("piece", "c", piece_text(MANY)),
                   ("form", "f", "(((((0 * 1) * 2) * 3) * 4) * 5)"), ("piece", "e", piece_text(EMPTY)),
                   ("piece", "h", piece_text(brute.standing_piece(random.Random(647), 150, 2)))]
        for verdict in ("alike a a", "for a a", "alike b b", "has a l", "has b l", "between l f k", "whole w b", "finishes w",
                        "stands a", "stands c", "fits e e", "alike e e", "fits h h"):
            self.assertIs(self.one_verdict(entries, verdict), False, verdict)

    def one(self, text):
        line = right_line(text, SHEET, SHEET_TAILS)
        for call in (sheet_entries, judged):
            if line is not None:
                self.refused(BadText, {"line": line, "column": 0}, call, text)
        return line is not None

    def test_changed_sheets(self):
        chance = random.Random(648)
        more = ["stands a", "meets a b", "meets a", "between a b c", "parting x", "lot x", "piece x", "form x", "bench x", "- 0",
                "- 1", "- 0 0", "- d0 d1", "- next 1", "- put 1", "- - 0", "- - d0 d1", "- tie 1 1.0 1.1", "", "-", "- ", "lot X",
                "lot", "stands A", "stands a b", "stand a", "- (0 * 1)", "- 0 * 1)", "piece abcdefghijklm", "lot  x", "has a b "]
        refused = 0
        for _ in range(300):
            bench = some_bench(chance, 4)
            rows = [entry("parting", "p", "0 1 0"), entry("lot", "l", "2\n0 0\n0 1"), entry("piece", "a", piece_text(CAP)),
                    entry("form", "f", "(0 * (1 + 2))"), entry("bench", "w", log_text(bench)), entry("lot", "k", "3")]
            text = "\n".join(chance.sample(rows, chance.randrange(4)) + chance.sample(
                ["stands a", "meets p p", "between l f k", "finishes w"], chance.randrange(1, 4)))
            self.assertFalse(self.one(text))
            refused += self.one(lines_changed(chance, text, more))
        self.assertGreater(refused, 150)

    def test_lines(self):
        for text, line in (("", 0), ("lot a", 1), ("lot a\nstands a", 1), ("lot a\n- 2\n- 0\nstands a", 2), ("lot a\n- 2", 2),
                           ("lot a\n- 2\n", 2), ("stands a\n", 1), ("stands a\nlot a\n- 2", 1), ("lot a\n- 2\n- 0 0\n- 0", 3),
                           ("parting a\n- 0\n- 0\nstands a", 2), ("form a\n- 0\n- 0\nstands a", 2), ("form a\n- (0 *", 1),
                           ("bench a\n- next 1\n- put 1\nstands a", 3), ("bench a\n- put 1", 1), ("bench a", 1),
                           ("bench a\n- next 1\n- put 1\n- - 41\nstands a", 3), ("piece a\n- 0 both\n- 0l\n", 2),
                           ("parting a\n0\nstands a", 1), ("parting A\n- 0", 0), ("- 0", 0), ("piece a\n- 0 \nstands a", 1)):
            self.assertEqual(right_line(text, SHEET, SHEET_TAILS), line, text)
            self.assertTrue(self.one(text))

    def test_bounds_of_entries(self):
        rows = lot_text(all_of(6), 6)
        self.check((("lot", "l", (all_of(6), 6)),), sheet_entries, entry("lot", "l", rows) + "\nstands a")
        for call in (sheet_entries, judged):
            self.refused(BadText, {"line": 205, "column": 0}, call, entry("lot", "l", rows + "\n0 0 0 0 0 0") + "\nstands a")
            self.refused(BadText, {"line": 205, "column": 0}, call, entry("lot", "l", rows))
            piece = brute.random_piece(random.Random(649), 40, ["both"] * 200)
            text = piece_text(piece)
            self.refused(BadText, {"line": 322, "column": 0}, call, entry("piece", "a", text + "\nd0 d1") + "\nstands a")
            self.refused(BadText, {"line": 1, "column": 0}, call, entry("piece", "a", text.replace("40 ", "40 both ", 1)))
            form = "(" * 40 + "0" + " * 1)" * 40
            self.refused(BadText, {"line": 1, "column": 0}, call, entry("form", "f", form) + "\nstands a")
            self.refused(BadForm, {"path": (1,) * 37 + (2,)}, call, entry("form", "f", form[1:-5]) + "\nstands a")
            self.refused(BadText, {"line": 1, "column": 0}, call, entry("parting", "p", "0" + " 0" * 60) + "\nstands a")

    def test_first_error(self):
        for call in (sheet_entries, judged):
            for value in [*(one for one in wrong_kinds() if not isinstance(one, str)), 0, ()]:
                self.refused(BadText, {"line": None, "column": None}, call, value)
            wrong = [entry("parting", "p", "1"), entry("lot", "l", "2\n0 1\n0 0"), entry("piece", "a", "1"),
                     entry("form", "f", "(0 * 0)"), entry("bench", "w", "next 402"), entry("bench", "v", "next 2\nput 1\n- 1")]
            errors = [(BadParting, {"place": 0}), (BadLot, {"word": "order"}), (BadPiece, {"word": "ends", "place": None}),
                      (BadForm, {"path": (2,)}), (BadNumber, {"value": 402}), (BadPiece, {"word": "ends", "place": None})]
            for at, (error, fields) in enumerate(errors):
                self.refused(error, fields, call, "\n".join(wrong[at:] + ["stands x"]))
                # A name that is there twice comes ahead, a line that can't be read ahead of both.
                twice = wrong[at:] + [entry("parting", "n", "0"), entry("lot", "m", "1"), entry("lot", "m", "1"),
                                      entry("form", "n", "0")]
                self.refused(BadName, {"name": "m"}, call, "\n".join(twice + ["stands x"]))
                lines = "\n".join(twice + ["stands x"]).split("\n")
                self.refused(BadText, {"line": len(lines), "column": 0}, call, "\n".join(lines + [""]))

    def test_knots_in_sheets(self):
        piece = "\n".join("- " + line for line in piece_text(brute.random_piece(
            random.Random(650), 0, ["either"] * 102)).split("\n"))
        text = entry("bench", "w", f"next 3\nput 1\n{piece}\nput 2\n{piece}") + "\nfinishes w"
        self.refused(TooGreat, {"most": 200}, sheet_entries, text)
        self.refused(TooGreat, {"most": 200}, judged, text)

    def test_what_is_judged(self):
        bench = Bench()
        bench.put(knot_piece("both"))
        bench.put(knot_piece("either"))
        for door in range(3):
            bench.tie((1, door), (2, (door + 1) % 3))
        whole = bench.whole()
        text = "\n".join([entry("bench", "w", log_text(bench)), entry("piece", "a", piece_text(whole)), "whole w a", "finishes w",
                          "stands a", "whole w a"])
        told = judged(text=text)
        self.assertEqual(told[0], True)
        self.assertEqual(told[3], True)
        self.assertEqual(told[1], told[2])
