"""Pieces that are made: tree pieces, pieces of one knot, pieces with their doors in another order."""

from fittingdoors.errors import BadDoor, BadName, TooGreat
from fittingdoors.kinds import is_integer_within, is_tuple_within
from fittingdoors.partings import doors_by_block, need_parting
from fittingdoors.pieces import MOST_PIECE_DOORS, is_sort, need_piece, plain_lines


def door_ends(doors):
    """The ends of these doors."""
    return [(-1, door) for door in doors]


def tree_of_ends(ends, knot):
    """The knots, numbered from KNOT on, and the lines of a tree that joins these ends."""
    if len(ends) == 1:
        return ["either"], [((knot, 0), (knot, 1)), (ends[0], (knot, 2))]
    if len(ends) == 2:
        return [], [(ends[0], ends[1])]
    lines = [(ends[0], (knot, 0)), (ends[1], (knot, 1))]
    knots = ["both"]
    for end in ends[2:-1]:
        last = knot + len(knots) - 1
        lines.append(((last, 2), (last + 1, 0)))
        lines.append((end, (last + 1, 1)))
        knots.append("both")
    lines.append((ends[-1], (knot + len(knots) - 1, 2)))
    return knots, lines


def tree_piece(parting):
    """The tree piece of a parting, plain."""
    need_parting(parting)
    if len(parting) > MOST_PIECE_DOORS:
        raise TooGreat(MOST_PIECE_DOORS)
    knots = []
    lines = []
    for doors in doors_by_block(parting):
        more_knots, more_lines = tree_of_ends(door_ends(doors), len(knots))
        knots.extend(more_knots)
        lines.extend(more_lines)
    return len(parting), tuple(knots), plain_lines(lines)


def knot_piece(sort):
    """The plain piece of one knot of this sort."""
    if not is_sort(sort):
        raise BadName(sort)
    return 3, (sort,), tuple([((-1, place), (0, place)) for place in range(3)])


def is_order(value, doors):
    """Whether a value is a tuple of all of so many doors, each once."""
    if not is_tuple_within(value, doors, doors):
        return False
    for door in value:
        if not is_integer_within(door, 0, doors - 1):
            return False
    return len(set(value)) == doors


def doors_in_order(piece, order):
    """The plain piece with its doors in this order."""
    doors, knots, lines = need_piece(piece)
    if not is_order(order, doors):
        raise BadDoor(order)
    names = {(-1, door): (-1, number) for number, door in enumerate(order)}
    return doors, tuple(knots), plain_lines([[names.get(end, end) for end in line] for line in lines])
