"""What the document says, told by trying everything: slow, and written apart from the package."""

import itertools
import unittest

import fittingdoors.errors as errors

GREAT = 10 ** 999


class Thing:
    """A value of a kind that nothing knows."""


def wrong_kinds():
    """Values that are neither integers nor tuples."""
    return [None, True, False, "", "0", "both", b"", b"0", [], [0], [0, 0], {}, {0: 0}, {0}, set(), Thing(), Thing]


class TestCase(unittest.TestCase):
    """Test cases that ask for the very class of an error and for its fields."""

    maxDiff = 2000

    def refused(self, error, fields, call, *values, **named):
        with self.assertRaises(errors.FitError) as caught:
            call(*values, **named)
        self.assertIs(type(caught.exception), error, (call, values, named))
        told = {name: getattr(caught.exception, name) for name in fields}
        self.assertEqual(told, fields)
        for name in fields:
            self.assertIs(type(told[name]), type(fields[name]))

    def plain(self, value):
        """Only plain tuples, strings, integers, True, False and None are told."""
        self.assertIn(type(value), (tuple, str, int, bool, type(None)))
        if isinstance(value, tuple):
            for thing in value:
                self.plain(thing)

    def check(self, expected, call, *values, **named):
        told = call(*values, **named)
        self.assertEqual(told, expected, (call, values))
        self.assertIs(type(told), type(expected))
        self.plain(told)


def parting(blocks):
    """The parting of any things at the doors."""
    numbers = []
    told = []
    for block in blocks:
        if block not in numbers:
            numbers.append(block)
        told.append(numbers.index(block))
    return tuple(told)


def partings(doors):
    """All partings of so many doors, ascending, from all tuples of numbers."""
    if doors == 0:
        return [()]
    rows = []
    for row in itertools.product(*[range(door + 1) for door in range(doors)]):
        if all(block <= max(row[:door], default=-1) + 1 for door, block in enumerate(row)):
            rows.append(row)
    return sorted(rows)


def same_block_pairs(row):
    return {(i, j) for i in range(len(row)) for j in range(len(row)) if row[i] == row[j]}


def finer(low, high):
    return same_block_pairs(low) <= same_block_pairs(high)


def components(nodes, edges):
    """The pieces of a graph, as sets of its nodes."""
    near = {node: [] for node in nodes}
    for one, two in edges:
        near[one].append(two)
        near[two].append(one)
    found = []
    seen = set()
    for node in nodes:
        if node not in seen:
            piece = {node}
            todo = [node]
            while todo:
                for other in near[todo.pop()]:
                    if other not in piece:
                        piece.add(other)
                        todo.append(other)
            seen |= piece
            found.append(piece)
    return found


def web(p, q):
    nodes = [("P", block) for block in sorted(set(p))] + [("Q", block) for block in sorted(set(q))]
    return nodes, [(("P", a), ("Q", b)) for a, b in zip(p, q)]


def is_wood(nodes, edges):
    return len(edges) == len(nodes) - len(components(nodes, edges))


def in_tree(p, q):
    nodes, edges = web(p, q)
    return len(edges) == len(nodes) - 1 and len(components(nodes, edges)) == 1


def in_wood(p, q):
    return is_wood(*web(p, q))



ALL = {}
MEETS = {}


def all_of(doors):
    """All partings of so many doors, as a tuple."""
    if doors not in ALL:
        ALL[doors] = tuple(partings(doors))
    return ALL[doors]


def meets(one, two):
    """Whether they meet in a tree, each pair told once."""
    if (one, two) not in MEETS:
        MEETS[one, two] = in_tree(one, two)
    return MEETS[one, two]


def turned(lot, doors):
    return tuple(row for row in all_of(doors) if all(meets(row, other) for other in lot))


def closed(lot, doors):
    return turned(turned(lot, doors), doors)


def lots_of(doors):
    """All lots of so many doors."""
    rows = all_of(doors)
    return [lot for many in range(len(rows) + 1) for lot in itertools.combinations(rows, many)]


def random_lot(chance, doors, most=6):
    """Some lot, as a rule with partings of one size, that is met by something."""
    rows = all_of(doors)
    kind = chance.randrange(4)
    if kind == 0:
        return tuple(sorted(chance.sample(rows, min(len(rows), chance.randrange(most)))))
    some = chance.sample(turned((chance.choice(rows),), doors), 1)
    if kind == 1:
        some += chance.sample(rows, 1)
    lot = turned(tuple(some), doors)
    return tuple(sorted(chance.sample(lot, min(len(lot), chance.randrange(1, most)))))


def glued(p, q, ties):
    """What the document says of two partings that are tied; None if they are barred."""
    nodes, _ = web(p, q)
    edges = [(("P", p[one]), ("Q", q[two])) for one, two in ties]
    ends = [("P", p[door]) for door in range(len(p)) if door not in [one for one, _ in ties]]
    ends += [("Q", q[door]) for door in range(len(q)) if door not in [two for _, two in ties]]
    return hung_together(nodes, edges, ends)


def tied(p, ties):
    """What comes of one parting two doors of which are tied by each tie."""
    edges = [(p[one], p[two]) for one, two in ties]
    return hung_together(sorted(set(p)), edges, [p[door] for door in range(len(p)) if door not in sum(ties, ())])


def hung_together(nodes, edges, ends):
    """The parting of open doors by the pieces of a web, ENDS being their places; None if it is barred."""
    if not is_wood(nodes, edges):
        return None
    parts = components(nodes, edges)
    if not ends:
        return () if len(parts) == 1 else None
    if any(not any(end in part for end in ends) for part in parts):
        return None
    return parting([[end in part for part in parts].index(True) for end in ends])


def all_glued(lot, other, ties):
    rows = [glued(p, q, ties) for p in lot for q in other]
    return None if None in rows else tuple(sorted(set(rows)))


def all_tied(lot, ties):
    rows = [tied(p, ties) for p in lot]
    return None if None in rows else tuple(sorted(set(rows)))


def all_ties(doors, other_doors, most=6):
    """All ties with at most so many of them, each ascending."""
    rows = []
    for many in range(min(doors, other_doors, most) + 1):
        for firsts in itertools.combinations(range(doors), many):
            rows += [tuple(zip(firsts, seconds)) for seconds in itertools.permutations(range(other_doors), many)]
    return rows


def own_ties(doors):
    """All ties of unlike doors of one thing, each as a set, the lesser door first."""
    rows = [()]
    for one, two in itertools.combinations(range(doors), 2):
        rows += [row + ((one, two),) for row in rows if one not in sum(row, ()) and two not in sum(row, ())]
    return rows


def is_ring(p, q, doors):
    """The words of the document on rings, for a tuple of doors."""
    many = len(doors)
    if many < 2 or many % 2 or len(set(doors)) < many:
        return False
    for at in range(many):
        one, two = doors[at], doors[(at + 1) % many]
        row = p if at % 2 == 0 else q
        if row[one] != row[two]:
            return False
    for row in (p, q):
        blocks = [row[door] for door in doors]
        if any(blocks.count(block) > 2 for block in blocks):
            return False
    return True


def all_rings(p, q):
    doors = range(len(p))
    return [row for many in range(2, len(p) + 1, 2) for row in itertools.permutations(doors, many)
            if is_ring(p, q, row)]


def is_way(p, q, doors):
    """Whether doors go on in one block of p and in one block of q by turns."""
    if len(set(doors)) != len(doors):
        return False
    for first in ((p, q), (q, p)):
        if all(first[at % 2][doors[at]] == first[at % 2][doors[at + 1]] for at in range(len(doors) - 1)):
            return True
    return False


def all_ends(doors, knots):
    return [(-1, door) for door in range(doors)] + [(knot, place) for knot in range(knots) for place in range(3)]


def pairings(ends):
    """All ways to put ends on lines."""
    if not ends:
        return [()]
    first, rest = ends[0], ends[1:]
    return [((first, other),) + more for at, other in enumerate(rest)
            for more in pairings(rest[:at] + rest[at + 1:])]


def small_pieces(doors, knots):
    """All plain pieces with so many doors and knots."""
    ends = all_ends(doors, knots)
    if len(ends) % 2:
        return []
    ways = pairings(ends)
    return [(doors, sorts, tuple(sorted(lines))) for sorts in itertools.product(("both", "either"), repeat=knots)
            for lines in ways]


def random_piece(chance, doors, sorts):
    """Some piece; lines and their ends in any order."""
    ends = all_ends(doors, len(sorts))
    chance.shuffle(ends)
    lines = tuple((ends[at], ends[at + 1]) for at in range(0, len(ends), 2))
    return doors, tuple(sorts), lines


def settings(piece):
    return list(itertools.product((0, 1), repeat=piece[1].count("either")))


def setting_web(piece, setting):
    """The web of a setting: its places and ties."""
    line_of = {end: ("line", number) for number, line in enumerate(piece[2]) for end in line}
    nodes = [("line", number) for number in range(len(piece[2]))]
    edges = []
    kept = list(setting)
    for knot, sort in enumerate(piece[1]):
        nodes.append(("knot", knot))
        places = (0, 1, 2) if sort == "both" else (kept.pop(0), 2)
        edges += [(("knot", knot), line_of[knot, place]) for place in places]
    return nodes, edges, line_of


def has_ring(piece, setting):
    nodes, edges, _ = setting_web(piece, setting)
    return not is_wood(nodes, edges)


def left(piece, setting):
    """What a setting leaves: a parting, () without doors, None if it is barred."""
    nodes, edges, line_of = setting_web(piece, setting)
    if not is_wood(nodes, edges):
        return None
    parts = components(nodes, edges)
    doors = [line_of[-1, door] for door in range(piece[0])]
    if not doors:
        return () if len(parts) == 1 else None
    if any(not any(door in part for door in doors) for part in parts):
        return None
    return parting([[door in part for part in parts].index(True) for door in doors])


def lot(piece):
    """The lot, None of a piece that is not sound."""
    rows = [left(piece, setting) for setting in settings(piece)]
    return None if None in rows else tuple(sorted(set(rows)))


class Growth:
    """A web that is one clump, whatever is kept, with loose ends at which it can grow."""

    def __init__(self, chance):
        self.chance = chance
        self.sorts = []
        self.lines = [["a", "b"]]
        self.loose = ["a", "b"]

    def hang(self, end):
        """Put an end of a knot in the place of some loose end."""
        mark = self.loose.pop(self.chance.randrange(len(self.loose)))
        for line in self.lines:
            for at in (0, 1):
                if line[at] == mark:
                    line[at] = end

    def sprout(self, end):
        """A new line from an end of a knot to a loose end."""
        mark = f"{end}"
        self.lines.append([end, mark])
        self.loose.append(mark)

    def both(self):
        knot = len(self.sorts)
        self.sorts.append("both")
        places = self.chance.sample(range(3), 3)
        self.hang((knot, places[0]))
        self.sprout((knot, places[1]))
        self.sprout((knot, places[2]))

    def over(self):
        """An EITHER knot with left and right on two loose ends."""
        knot = len(self.sorts)
        self.sorts.append("either")
        self.hang((knot, 0))
        self.hang((knot, 1))
        self.sprout((knot, 2))

    def cap(self):
        """An EITHER knot with left and right on one line."""
        knot = len(self.sorts)
        self.sorts.append("either")
        self.hang((knot, 2))
        self.lines.append([(knot, 0), (knot, 1)])

    def told(self, doors):
        """The piece with its knots, lines and ends shuffled."""
        for door in range(doors):
            self.hang((-1, door))
        chance = self.chance
        names = chance.sample(range(len(self.sorts)), len(self.sorts))
        lines = [[end if end[0] == -1 else (names[end[0]], end[1]) for end in line] for line in self.lines]
        for line in lines:
            chance.shuffle(line)
        chance.shuffle(lines)
        sorts = dict(zip(names, self.sorts))
        return doors, tuple(sorts[knot] for knot in range(len(names))), tuple(tuple(line) for line in lines)


def standing_piece(chance, knots, doors=0):
    """A piece that is one part for every setting, with so many knots (one less if that can't be)."""
    growth = Growth(chance)
    left = knots - (knots + doors) % 2
    while left > 0:
        loose = len(growth.loose)
        left -= 1
        up = loose + 1 - doors <= left
        down = doors - loose + 1 <= left and (loose > 1 or left == 0)
        if up and (not down or chance.random() < 0.5):
            growth.both()
        elif loose > 1 and chance.random() < 0.7:
            growth.over()
        else:
            growth.cap()
    return growth.told(doors)


def swapped(chance, piece, times=1):
    """The piece with ends of two lines exchanged, so many times."""
    doors, sorts, lines = piece
    rows = [list(line) for line in lines]
    for _ in range(times):
        one, two = chance.sample(range(len(rows)), 2)
        rows[one][0], rows[two][0] = rows[two][0], rows[one][0]
    return doors, sorts, tuple(tuple(row) for row in rows)


def opened(piece, gone):
    """The piece without some knots; what was on them are new doors behind all others."""
    doors, sorts, lines = piece
    names = {knot: at for at, knot in enumerate(knot for knot in range(len(sorts)) if knot not in gone)}
    rows = []
    for line in lines:
        row = []
        for knot, place in line:
            if knot in names:
                row.append((names[knot], place))
            elif knot == -1:
                row.append((-1, place))
            else:
                row.append((-1, doors))
                doors += 1
        rows.append(tuple(row))
    return doors, tuple(sort for knot, sort in enumerate(sorts) if knot in names), tuple(rows)



def sound_piece(chance, doors, knots):
    """Some sound piece with so many doors and at most so many knots; its lot has often several partings."""
    while True:
        many = chance.randrange(knots + 1)
        sorts = [chance.choice(("both", "either", "either")) for _ in range(many - (many + doors) % 2)]
        if many >= (many + doors) % 2:
            piece = random_piece(chance, doors, sorts)
            if lot(piece) is not None:
                return piece


def parts_of(piece):
    """The lines of each part of a piece that hangs together."""
    doors, sorts, lines = piece
    line_of = {end: number for number, line in enumerate(lines) for end in line}
    edges = [(line_of[knot, 0], line_of[knot, place]) for knot in range(len(sorts)) for place in (1, 2)]
    return components(range(len(lines)), edges)


def term_web(alphabet, term):
    """The letters in a term, from the left, and its ties, each door with the place of its letter."""
    letters = []
    ties = []

    def add(one):
        at = len(letters)
        letters.append(one[0])
        door, downs, _ = alphabet[one[0]]
        for width, inner in zip(downs, one[1:]):
            below = len(letters)
            add(inner)
            ties.extend([((at, door + step), (below, step)) for step in range(width)])
            door += width

    add(term)
    return letters, ties


def term_lot(alphabet, term):
    """The lot of a term by all choices of partings; None if it is barred."""
    letters, ties = term_web(alphabet, term)
    told = set()
    for rows in itertools.product(*[alphabet[letter][2] for letter in letters]):
        nodes = [(at, block) for at, row in enumerate(rows) for block in sorted(set(row))]
        edges = [((at, rows[at][door]), (below, rows[below][other])) for (at, door), (below, other) in ties]
        ends = [(0, rows[0][door]) for door in range(alphabet[letters[0]][0])]
        told.add(hung_together(nodes, edges, ends))
    return None if None in told else tuple(sorted(told))


def size_of_term(term):
    return 1 + sum(size_of_term(inner) for inner in term[1:])


def all_terms(alphabet, most):
    """All terms with at most so many letters, those with fewer letters first, then as Python compares."""
    rows = {0: []}
    for size in range(1, most + 1):
        rows[size] = []
        for letter, (_, downs, _) in enumerate(alphabet):
            for sizes in itertools.product(range(1, size), repeat=len(downs)):
                if sum(sizes) == size - 1:
                    choices = [[inner for inner in rows[one] if alphabet[inner[0]][0] == width]
                               for one, width in zip(sizes, downs)]
                    rows[size] += [(letter, *inner) for inner in itertools.product(*choices)]
    return [term for size in range(1, most + 1) for term in sorted(rows[size])]


def random_letter(chance, up, downs, sound=True):
    """Some letter; SOUND: with the lot of a sound piece."""
    doors = up + sum(downs)
    if sound:
        return up, downs, lot(sound_piece(chance, doors, 4))
    told = ()
    while not told:
        told = random_lot(chance, doors, 5)
    return up, downs, told


def random_alphabet(chance, most=5, sound=True):
    """Some alphabet, as a rule with terms of one or two widths."""
    widths = chance.sample((1, 2, 2, 3), 2)
    told = []
    for number in range(chance.randrange(1, most + 1)):
        up = widths[number] if number < 2 else chance.choice(widths)
        many = chance.choice((1, 1, 2)) if number > 1 or chance.random() < 0.1 else 0
        downs = tuple(chance.choice(widths) for _ in range(many))
        told.append(random_letter(chance, up, downs if up + sum(downs) <= 6 else downs[:1], sound))
    chance.shuffle(told)
    return tuple(told)


def form_piece(form, doors):
    """The piece of a form, told from the root up."""
    sorts = []
    lines = []

    def hang(part, end):
        if isinstance(part, int):
            lines.append((end, (-1, part)))
            return
        knot = len(sorts)
        sorts.append(part[0])
        lines.append((end, (knot, 2)))
        hang(part[1], (knot, 0))
        hang(part[2], (knot, 1))

    sorts.append("either")
    lines.append(((0, 0), (0, 1)))
    hang(form, (0, 2))
    return doors, tuple(sorts), tuple(lines)


def random_form(chance, doors):
    if len(doors) == 1:
        return doors[0]
    at = chance.randrange(1, len(doors))
    return chance.choice(("both", "either")), random_form(chance, doors[:at]), random_form(chance, doors[at:])


def doors_of(form):
    return [form] if isinstance(form, int) else doors_of(form[1]) + doors_of(form[2])


def knot_of(form, one, two):
    """The word of the knot where the ways of two doors meet."""
    for part in form[1:]:
        if {one, two} <= set(doors_of(part)):
            return knot_of(part, one, two)
    return form[0]


def all_forms_of(doors):
    """All forms of these doors, in every order and with all brackets."""
    if len(doors) == 1:
        return [doors[0]]
    told = []
    for many in range(1, len(doors)):
        for some in itertools.combinations(doors, many):
            rest = [door for door in doors if door not in some]
            for one, two in itertools.product(all_forms_of(list(some)), all_forms_of(rest)):
                told += [("both", one, two), ("either", one, two)]
    return told


def form_lot(form):
    """The lot of a form from the leaves up: pairs of blocks and of a root block."""
    def pairs(part):
        if isinstance(part, int):
            return {(frozenset([frozenset([part])]), frozenset([part]))}
        told = set()
        for (one, root), (two, other) in itertools.product(pairs(part[1]), pairs(part[2])):
            if part[0] == "both":
                told.add(((one | two) - {root, other} | {root | other}, root | other))
            else:
                told |= {(one | two, root), (one | two, other)}
        return told

    many = len(doors_of(form))
    return tuple(sorted({parting([[door in block for block in blocks].index(True) for door in range(many)])
                         for blocks in [list(row) for row, _ in pairs(form)]}))


def dual(form):
    if isinstance(form, int):
        return form
    return "either" if form[0] == "both" else "both", dual(form[1]), dual(form[2])


def knot_words(form):
    """For each two doors, the lesser one first, the word of their knot."""
    doors = sorted(doors_of(form))
    return {pair: knot_of(form, *pair) for pair in itertools.combinations(doors, 2)}


def steps_of(form, path=()):
    """All that comes of a form by one step, behind its path and its word."""
    if isinstance(form, int):
        return []
    word, one, two = form
    told = [(path, "turn", (word, two, one))]
    if not isinstance(two, int) and two[0] == word:
        told.append((path, "left", (word, (word, one, two[1]), two[2])))
    if not isinstance(one, int) and one[0] == word:
        told.append((path, "right", (word, one[1], (word, one[2], two))))
    if word == "both" and not isinstance(two, int) and two[0] == "either":
        told.append((path, "pass", ("either", ("both", one, two[1]), two[2])))
    told += [(way, name, (word, part, two)) for way, name, part in steps_of(one, path + (1,))]
    return told + [(way, name, (word, one, part)) for way, name, part in steps_of(two, path + (2,))]


def deep_form(doors, word="both", side=1):
    """A form of doors one within the other, the last one outermost."""
    told = 0
    for door in range(1, doors):
        told = (word, told, door) if side == 1 else (word, door, told)
    return told
