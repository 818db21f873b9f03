"""Partings that are a shift apart, and a piece whose settings leave just two of them."""

from fittingdoors.clumps import Clumps
from fittingdoors.errors import TooGreat
from fittingdoors.lots import need_lot
from fittingdoors.makers import door_ends, tree_of_ends
from fittingdoors.partings import block_count, doors_by_block, need_two_partings
from fittingdoors.pieces import MOST_PIECE_DOORS, plain_lines


def block_met_twice(pairs, which):
    """The only block of one of the two partings that stands in two of these pairs."""
    blocks = [pair[which] for pair in pairs]
    return [block for block in blocks if blocks.count(block) > 1][0]


def shift_of(parting, other):
    """The doors that go over and the doors of the two blocks between which they go, None if there is no shift.

    With as many blocks in both and one pair of blocks more that meet, just one block of each meets
    two of the other parting; it is a shift if these two have doors in common.
    """
    many = block_count(parting)
    pairs = sorted(set(list(zip(parting, other))))
    if block_count(other) != many or len(pairs) != many + 1:
        return None
    old = block_met_twice(pairs, 0)
    new = block_met_twice(pairs, 1)
    if (old, new) not in pairs:
        return None
    doors = list(range(len(parting)))
    over = [door for door in doors if parting[door] == old and other[door] == new]
    stay = [door for door in doors if parting[door] == old and other[door] != new]
    goal = [door for door in doors if parting[door] != old and other[door] == new]
    return over, stay, goal


def shifted(parting, other):
    """The doors that go over, None if the two partings are not a shift apart."""
    need_two_partings(parting, other)
    shift = shift_of(parting, other)
    return None if shift is None else tuple(shift[0])


def classes_of(lot):
    """What is known to be a lot, in classes within which shifts lead from each parting to each other one."""
    clumps = Clumps(len(lot))
    for place, parting in enumerate(lot):
        for ahead in range(place):
            if shift_of(lot[ahead], parting) is not None:
                clumps.unite(ahead, place)
    classes = {}
    for place, parting in enumerate(lot):
        classes.setdefault(clumps.head(place), []).append(parting)
    return tuple(sorted([tuple(row) for row in classes.values()]))


def shift_classes(lot, number):
    """The lot in lots within which shifts lead from each parting to each other one, ascending."""
    return classes_of(need_lot(lot, number))


def shift_piece(parting, other):
    """A piece whose settings leave just these two partings, None if they are not a shift apart."""
    need_two_partings(parting, other)
    if len(parting) > MOST_PIECE_DOORS:
        raise TooGreat(MOST_PIECE_DOORS)
    shift = shift_of(parting, other)
    if shift is None:
        return None
    over, stay, goal = shift
    sides = [[*door_ends(stay), (0, 0)], [*door_ends(goal), (0, 1)], [*door_ends(over), (0, 2)]]
    moved = [*over, *stay, *goal]
    rest = [door_ends(doors) for doors in doors_by_block(parting) if doors[0] not in moved]
    knots = ["either"]
    lines = []
    for ends in [*sides, *rest]:
        more_knots, more_lines = tree_of_ends(ends, len(knots))
        knots.extend(more_knots)
        lines.extend(more_lines)
    return len(parting), tuple(knots), plain_lines(lines)
