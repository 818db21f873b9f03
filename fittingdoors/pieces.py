"""Pieces: webs of both and either knots with open doors."""

from fittingdoors.errors import BadPiece
from fittingdoors.kinds import is_integer_within, is_tuple_within

MOST_PIECE_DOORS = 40
MOST_KNOTS = 200
MOST_LINES = 320


def is_sort(value):
    """Whether a value is a word for a sort of knots."""
    return isinstance(value, str) and value in ("both", "either")


def is_end(value, doors, knots):
    """Whether a value is an end of a piece with so many doors and knots."""
    # Pieces have many ends: what kinds tells elsewhere is written out here.
    if not isinstance(value, tuple) or len(value) != 2:
        return False
    knot, place = value
    if not isinstance(knot, int) or not isinstance(place, int) or isinstance(knot, bool) or isinstance(place, bool):
        return False
    if knot == -1:
        return 0 <= place < doors
    return 0 <= knot < knots and 0 <= place <= 2


def has_form(value):
    """Whether a value keeps the first rule of pieces."""
    if not is_tuple_within(value, 3, 3):
        return False
    doors, knots, lines = value
    if not is_integer_within(doors, 0, MOST_PIECE_DOORS):
        return False
    return is_tuple_within(knots, 0, MOST_KNOTS) and is_tuple_within(lines, 0, MOST_LINES)


def first_wrong_line(doors, knots, lines):
    """The place of the first thing that is no line, or has an end of a line ahead, or None."""
    seen = set()
    for place, line in enumerate(lines):
        if not isinstance(line, tuple) or len(line) != 2:
            return place
        for end in line:
            if not is_end(end, doors, knots) or end in seen:
                return place
            seen.add(end)
    return None


def piece_fault(value):
    """None for a piece, otherwise the pair of the word of the first rule that fails and a place."""
    if not has_form(value):
        return "form", None
    doors, knots, lines = value
    for place, sort in enumerate(knots):
        if not is_sort(sort):
            return "knots", place
    place = first_wrong_line(doors, len(knots), lines)
    if place is not None:
        return "lines", place
    if 2 * len(lines) != doors + 3 * len(knots):
        return "ends", None
    return None


def is_piece(value):
    """Whether a value is a piece."""
    return piece_fault(value) is None


def need_piece(piece):
    """The piece; BadPiece of any other value."""
    fault = piece_fault(piece)
    if fault is not None:
        word, place = fault
        raise BadPiece(word, place)
    return tuple(piece)


def plain_lines(lines):
    """The lines ascending, each with its lesser end first."""
    return tuple(sorted([(one, two) if one < two else (two, one) for one, two in lines]))


def plain_piece(piece):
    """The plain piece with the same ends on each line."""
    doors, knots, lines = need_piece(piece)
    return doors, tuple(knots), plain_lines(lines)


def piece_size(piece):
    """How many parts a setting without a ring leaves."""
    _, knots, lines = need_piece(piece)
    return len(lines) - 2 * knots.count("both") - knots.count("either")


def line_numbers(piece):
    """For each end of a piece the number of its line."""
    return {end: number for number, line in enumerate(piece[2]) for end in line}


def knots_of_sort(piece, sort):
    """The numbers of the knots of this sort, ascending."""
    return tuple([knot for knot, word in enumerate(piece[1]) if word == sort])


def lines_at(numbers, knot):
    """The numbers of the lines on the left, right and low end of a knot."""
    return [numbers[(knot, place)] for place in range(3)]
