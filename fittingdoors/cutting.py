"""Pieces that are cut at their lines, and the parts that hang together."""

from fittingdoors.clumps import Clumps
from fittingdoors.errors import BadNumber, TooGreat
from fittingdoors.kinds import is_integer_within
from fittingdoors.lots import MOST_LOT_DOORS
from fittingdoors.lotting import MOST_EITHER_KNOTS
from fittingdoors.pieces import MOST_PIECE_DOORS, line_numbers, need_piece, plain_lines
from fittingdoors.retying import come_again
from fittingdoors.sweeps import Leaving, least_barred


def look_at_cuts(piece, lines):
    """Look at a piece and at the numbers of some of its lines, ascending."""
    need_piece(piece)
    if not isinstance(lines, tuple):
        raise BadNumber(lines)
    last = -1
    for line in lines:
        if not is_integer_within(line, last + 1, len(piece[2]) - 1):
            raise BadNumber(line)
        last = line
    if piece[0] + 2 * len(lines) > MOST_PIECE_DOORS:
        raise TooGreat(MOST_PIECE_DOORS)


def cut_up(piece, lines):
    """The piece cut at these lines."""
    doors, knots, rows = piece
    told = [row for line, row in enumerate(rows) if line not in lines]
    for place, line in enumerate(lines):
        one, two = rows[line]
        door = doors + 2 * place
        told.extend([(one, (-1, door)), (two, (-1, door + 1))])
    return doors + 2 * len(lines), tuple(knots), plain_lines(told)


def cut(piece, lines):
    """The piece cut at the lines with these numbers."""
    look_at_cuts(piece, lines)
    return cut_up(piece, lines)


def places_by_thing(things):
    """For each thing the list of the places where it stands."""
    told = {}
    for place, thing in enumerate(things):
        told.setdefault(thing, []).append(place)
    return told


def as_piece(piece, doors, knots, lines):
    """The piece of some doors, knots and lines of another one, numbered anew."""
    names = {(-1, old): (-1, new) for new, old in enumerate(doors)}
    for new, old in enumerate(knots):
        for place in range(3):
            names[(old, place)] = (new, place)
    told = [tuple([names[end] for end in piece[2][line]]) for line in lines]
    return len(doors), tuple([piece[1][knot] for knot in knots]), plain_lines(told)


def rank(part):
    """What orders the parts: those with knots first."""
    _, doors, knots = part
    return len(knots) == 0, knots, doors


def parts_of_piece(piece):
    """The parts that hang together, each with its old doors and knots."""
    numbers = line_numbers(piece)
    clumps = Clumps(len(piece[2]))
    for knot in range(len(piece[1])):
        for place in (1, 2):
            clumps.unite(numbers[(knot, 0)], numbers[(knot, place)])
    doors = places_by_thing([clumps.head(numbers[(-1, door)]) for door in range(piece[0])])
    knots = places_by_thing([clumps.head(numbers[(knot, 0)]) for knot in range(len(piece[1]))])
    lines = places_by_thing([clumps.head(line) for line in range(len(piece[2]))])
    told = []
    for head, some in lines.items():
        some_doors = tuple(doors.get(head, []))
        some_knots = tuple(knots.get(head, []))
        told.append((as_piece(piece, some_doors, some_knots, some), some_doors, some_knots))
    return sorted(told, key=rank)


def hanging(piece):
    """For each part that hangs together the part as a piece, its old doors and its old knots."""
    return tuple(parts_of_piece(need_piece(piece)))


def look_at_parts(parts):
    """Look at parts that must have few settings and few doors each."""
    if any([part[1].count("either") > MOST_EITHER_KNOTS for part in parts]):
        raise TooGreat(MOST_EITHER_KNOTS)
    if any([part[0] > MOST_LOT_DOORS for part in parts]):
        raise TooGreat(MOST_LOT_DOORS)


def spot_of(door, doors):
    """The spot of a door of what was cut, of a piece with so many doors: the same for both doors of a cut line."""
    return door if door < doors else doors + (door - doors) // 2


def is_sound_by_parts(piece, lines):
    """Whether the piece is sound, told by the parts of the piece cut at these lines."""
    look_at_cuts(piece, lines)
    told = parts_of_piece(cut_up(piece, lines))
    parts = [part for part, _, _ in told]
    look_at_parts(parts)
    if len(parts) == 1 and parts[0][0] == 0:
        return least_barred(parts[0]) is None
    if len(parts) == 0 or any([part[0] == 0 for part in parts]):
        return False
    rows = [Leaving(part) for part in parts]
    if any([row.bad is not None for row in rows]):
        return False
    spots = [[spot_of(door, piece[0]) for door in doors] for _, doors, _ in told]
    return come_again([sorted(row.least) for row in rows], spots, list(range(piece[0])))
