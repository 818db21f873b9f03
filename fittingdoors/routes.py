"""Ways between doors of two partings that meet in a tree, and moves of one of them."""

from fittingdoors.errors import BadDoor
from fittingdoors.kinds import is_integer_within
from fittingdoors.meeting import doors_ahead, meets, way_back
from fittingdoors.partings import need_two_partings, numbered


def need_door(door, doors):
    """Look at a door out of so many."""
    if not is_integer_within(door, 0, doors - 1):
        raise BadDoor(door)


def way(parting, other, door, other_door):
    """The way from the one door to the other one, or None."""
    need_two_partings(parting, other)
    need_door(door, len(parting))
    need_door(other_door, len(parting))
    if not meets(parting, other):
        return None
    ahead = doors_ahead((parting, other), door, list(range(len(parting))), (0, 1))
    return tuple(way_back(ahead, other_door)[::-1])


def side(parts, door, which):
    """The doors whose ways from this one begin in its block of the parting WHICH, ascending."""
    ahead = doors_ahead(parts, door, list(range(len(parts[0]))), (which,))
    return tuple(sorted([other for other in ahead if other != door]))


def sides(parting, other, door):
    """The doors whose ways begin in the door's block of the one, and of the other parting."""
    need_two_partings(parting, other)
    need_door(door, len(parting))
    if not meets(parting, other):
        return None
    parts = (parting, other)
    return side(parts, door, 0), side(parts, door, 1)


def moved(parting, door, block):
    """The parting that comes when a door is put into a block."""
    blocks = list(parting)
    blocks[door] = block
    return numbered(blocks)


def moves(parting, other):
    """All partings that come from the other one by one move, ascending, or None."""
    need_two_partings(parting, other)
    if not meets(parting, other):
        return None
    rows = []
    for door in range(len(parting)):
        blocks = [other[near] for near in side((parting, other), door, 1)]
        for block in sorted(set(blocks)):
            if block != other[door]:
                rows.append(moved(other, door, block))
    return tuple(sorted(rows))
