"""Lots beside one another, and the sides into which a lot falls."""

from fittingdoors.errors import TooGreat
from fittingdoors.finer import finest_above, lies_within
from fittingdoors.lots import MOST_LOT_DOORS, need_lot, need_some_lot
from fittingdoors.partings import block_count, doors_by_block, numbered, partings_of_doors
from fittingdoors.selecting import beside


def lots_beside(lot, number, other, other_number):
    """The lot of all partings of the one lot beside all of the other."""
    need_lot(lot, number)
    need_lot(other, other_number)
    if number + other_number > MOST_LOT_DOORS:
        raise TooGreat(MOST_LOT_DOORS)
    return tuple(sorted([beside(one, two) for one in lot for two in other]))


def falls_into(lot, sides):
    """Whether all that is chosen of the lot at each block of SIDES comes together in the lot.

    No block of the lot has doors of two blocks of SIDES, so what is chosen has just the number of
    ways that is told here, and all of the lot is among them.
    """
    ways = 1
    for doors in doors_by_block(sides):
        ways *= len(set([numbered([parting[door] for door in doors]) for parting in lot]))
    return ways == len(lot)


def side_parts(lot, number):
    """The sides of a lot."""
    need_some_lot(lot, number)
    least = lot[0]
    for parting in lot:
        least = finest_above(least, parting)
    found = (0,) * number
    for sides in partings_of_doors(number):
        if block_count(sides) > block_count(found) and lies_within(least, sides) and falls_into(lot, sides):
            found = sides
    return found
