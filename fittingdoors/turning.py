"""What meets all of a lot, and closed lots."""

from fittingdoors.errors import BadNumber
from fittingdoors.kinds import is_integer_within
from fittingdoors.lots import need_lot
from fittingdoors.meeting import has_no_ring, meets
from fittingdoors.partings import block_count, partings_into, partings_of_doors

MOST_CLOSED_DOORS = 4


def has_no_rings(parting, lot):
    """Whether a parting has no ring with any one of a lot."""
    for other in lot:
        if not has_no_ring(parting, other):
            return False
    return True


def meets_all(parting, lot):
    """Whether a parting meets each one of a lot in a tree."""
    for other in lot:
        if not meets(parting, other):
            return False
    return True


def turned_lot(lot, number):
    """The partings that meet each of what is known to be a lot in a tree."""
    if len(lot) == 0:
        return partings_of_doors(number)
    # What meets a parting in a tree has a number of blocks that is told by those of the parting.
    sizes = [block_count(parting) for parting in lot]
    if min(sizes) != max(sizes):
        return ()
    return tuple([parting for parting in partings_into(number, number + 1 - sizes[0]) if has_no_rings(parting, lot)])


def turned(lot, number):
    """The lot of all partings that meet each of this one in a tree."""
    return turned_lot(need_lot(lot, number), number)


def closed_lot(lot, number):
    """What is known to be a lot, turned twice."""
    return turned_lot(turned_lot(lot, number), number)


def closed(lot, number):
    """The lot, turned twice."""
    return closed_lot(need_lot(lot, number), number)


def is_closed(lot, number):
    """Whether a lot is closed."""
    return closed_lot(need_lot(lot, number), number) == tuple(lot)


def closed_lots(number):
    """All closed lots of so many doors, ascending."""
    if not is_integer_within(number, 1, MOST_CLOSED_DOORS):
        raise BadNumber(number)
    rows = {turned_lot((), number): True}
    # Closed lots are what the lots turned of single partings have in common.
    for parting in partings_of_doors(number):
        one = turned_lot((parting,), number)
        for lot in list(rows):
            rows[tuple([member for member in lot if member in one])] = True
    return tuple(sorted(rows))
