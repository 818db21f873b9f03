"""Partings and lots that are tied at their doors."""

from fittingdoors.clumps import Clumps
from fittingdoors.errors import BadTies, TooGreat
from fittingdoors.joining import need_own_ties, need_ties
from fittingdoors.lots import MOST_LOT_DOORS, need_lot
from fittingdoors.partings import block_count, need_parting, numbered


def moved_ties(ties, doors):
    """The ties, the doors of the second numbered behind those of the first."""
    return [(one, two + doors) for one, two in ties]


def doors_left(doors, ties):
    """The doors, out of so many, that no tie has."""
    tied = [door for tie in ties for door in tie]
    return [door for door in range(doors) if door not in tied]


def blocks_of_both(parting, other):
    """The blocks of the doors of both, those of the other parting behind those of the first."""
    many = block_count(parting)
    return [*parting, *[many + block for block in other]]


def glue(blocks, ties, left):
    """The parting of the doors that are left when the blocks of tied doors hang together, None if it is barred.

    Every block of 0 and on, up to the greatest, holds some door.
    """
    clumps = Clumps(max(blocks) + 1)
    for one, two in ties:
        if not clumps.unite(blocks[one], blocks[two]):
            return None
    told = numbered([clumps.head(blocks[door]) for door in left])
    # Each piece of the web has to have a door; without doors there has to be just one piece.
    if clumps.many != max(told, default=0) + 1:
        return None
    return told


def glued(parting, other, ties):
    """The parting to which two partings are glued, () if no door is open, None if they are barred."""
    need_parting(parting)
    need_parting(other)
    need_ties(ties, len(parting), len(other))
    moved = moved_ties(ties, len(parting))
    left = doors_left(len(parting) + len(other), moved)
    return glue(blocks_of_both(parting, other), moved, left)


def glue_all(rows, ties, left):
    """All to which these rows of blocks are glued, ascending, None if one is barred."""
    told = {}
    for blocks in rows:
        one = glue(blocks, ties, left)
        if one is None:
            return None
        told[one] = True
    return tuple(sorted(told))


def join_lots(lot, other, ties, left):
    """All to which pairs of two lots are glued, ascending, None if one is barred; the ties are moved."""
    told = {}
    for parting in lot:
        some = glue_all([blocks_of_both(parting, one) for one in other], ties, left)
        if some is None:
            return None
        for one in some:
            told[one] = True
    return tuple(sorted(told))


def need_few_left(left):
    """Look at the doors that are left: a lot has at least one, and not too many."""
    if len(left) == 0:
        raise BadTies(None)
    if len(left) > MOST_LOT_DOORS:
        raise TooGreat(MOST_LOT_DOORS)


def lots_joined(lot, number, other, other_number, ties):
    """The lot of two lots joined by ties, None if something is barred."""
    need_lot(lot, number)
    need_lot(other, other_number)
    need_ties(ties, number, other_number)
    moved = moved_ties(ties, number)
    left = doors_left(number + other_number, moved)
    need_few_left(left)
    return join_lots(lot, other, moved, left)


def lot_tied(lot, number, ties):
    """The lot of a lot tied by ties of its own doors, None if something is barred."""
    need_lot(lot, number)
    need_own_ties(ties, number)
    left = doors_left(number, ties)
    need_few_left(left)
    return glue_all(lot, ties, left)
