"""The prices of two lots: all closed lots that lie between them."""

from fittingdoors.errors import TooGreat
from fittingdoors.lots import need_lot
from fittingdoors.meeting import meets
from fittingdoors.turning import turned_lot

MOST_PRICES = 2000


def bits_of(goal, guard):
    """The partings of a lot that meet this one in a tree, as an integer with a bit for each."""
    return sum([1 << place for place, parting in enumerate(goal) if meets(parting, guard)])


def commons(goal, guards):
    """All that the lot, and what of it meets some of the guards each, have in common; as integers.

    None is lost when a guard more is taken, so too many are seen as soon as they come.
    """
    told = {(1 << len(goal)) - 1: True}
    for guard in guards:
        bits = bits_of(goal, guard)
        for known in list(told):
            told[known & bits] = True
        if len(told) > MOST_PRICES:
            raise TooGreat(MOST_PRICES)
    return list(told)


def prices(lot, other, number):
    """The prices, those with fewer partings first."""
    need_lot(lot, number)
    need_lot(other, number)
    goal = turned_lot(other, number)
    if not all([parting in goal for parting in lot]):
        return ()
    rows = [tuple([parting for place, parting in enumerate(goal) if (bits >> place) & 1 == 1])
            for bits in commons(goal, turned_lot(lot, number))]
    return tuple([row for _, row in sorted([(len(row), row) for row in rows])])
