"""Which closed lots are the lots of pieces, and such pieces."""

from fittingdoors.errors import BadLot
from fittingdoors.lots import need_lot
from fittingdoors.makers import door_ends, tree_of_ends, tree_piece
from fittingdoors.partings import block_count, doors_by_block, need_parting
from fittingdoors.pieces import plain_lines
from fittingdoors.shifting import classes_of
from fittingdoors.turning import turned_lot


def need_outer_lot(lot, number):
    """Look at a closed lot of very few or very many blocks."""
    need_lot(lot, number)
    other = turned_lot(lot, number)
    if turned_lot(other, number) != tuple(lot):
        raise BadLot("closed")
    if len(lot) > 0 and len(other) > 0 and block_count(lot[0]) not in (1, 2, number - 1, number):
        raise BadLot("size")


def why_not(lot, number):
    """The word why a lot that has been looked at is that of no piece, or None."""
    if len(lot) == 0:
        return "empty"
    if len(turned_lot(lot, number)) == 0:
        return "all"
    return "apart" if len(classes_of(lot)) > 1 else None


def why_none(lot, number):
    """The word why a lot is that of no piece, or None."""
    need_outer_lot(lot, number)
    return why_not(lot, number)


def with_trees(number, knots, lines, groups):
    """The piece with these knots and lines and with a tree for each group of ends."""
    knots = list(knots)
    lines = list(lines)
    for ends in groups:
        more_knots, more_lines = tree_of_ends(ends, len(knots))
        knots.extend(more_knots)
        lines.extend(more_lines)
    return number, tuple(knots), plain_lines(lines)


def two_blocks(lot, number):
    """A piece for a lot of partings into two blocks: two trees, and doors that go to the one or to the other.

    SHIFTS lead through the lot, so all doors but those that never change sides go freely.
    """
    doors = list(range(number))
    pairs = [(one, two) for one in doors for two in doors if all([row[one] != row[two] for row in lot])]
    one, two = pairs[0]
    near = [door for door in doors if all([row[one] == row[door] for row in lot])]
    far = [door for door in doors if all([row[two] == row[door] for row in lot])]
    free = [door for door in doors if door not in near and door not in far]
    lines = [((-1, door), (knot, 2)) for knot, door in enumerate(free)]
    groups = [[*door_ends(group), *[(knot, kept) for knot in range(len(free))]]
              for kept, group in enumerate((near, far))]
    return with_trees(number, ["either"] * len(free), lines, groups)


def chosen(doors, knot):
    """EITHER knots, numbered from KNOT on, one of whose doors comes through: how many, the lines, the last end."""
    lines = []
    end = (-1, doors[0])
    for place, door in enumerate(doors[1:]):
        here = knot + place
        lines.extend([(end, (here, 0)), ((-1, door), (here, 1))])
        end = (here, 2)
    return len(doors) - 1, lines, end


def one_pair(lot, number):
    """A piece for a lot of partings with one block of two doors and blocks of one door.

    SHIFTS lead through the lot, so each door of one side comes together with each one of the other.
    """
    pairs = [doors for row in lot for doors in doors_by_block(row) if len(doors) == 2]
    one, two = pairs[0]
    near = [door for door in range(number) if sorted([door, two]) in pairs]
    far = [door for door in range(number) if sorted([door, one]) in pairs]
    many, lines, end = chosen(near, 0)
    more, more_lines, other_end = chosen(far, many)
    rest = [door_ends([door]) for door in range(number) if door not in near and door not in far]
    return with_trees(number, ["either"] * (many + more), [*lines, *more_lines, (end, other_end)], rest)


def piece_of(lot, number):
    """A piece whose lot this is, None if there is none."""
    need_outer_lot(lot, number)
    if why_not(lot, number) is not None:
        return None
    if len(lot) == 1:
        return tree_piece(lot[0])
    return two_blocks(lot, number) if block_count(lot[0]) == 2 else one_pair(lot, number)


def knots_needed(parting):
    """How many BOTH and how many EITHER knots a sound piece has at least, some setting of which leaves this."""
    need_parting(parting)
    sizes = [len(doors) for doors in doors_by_block(parting)]
    return sum([size - 2 for size in sizes if size > 2]), sizes.count(1)
