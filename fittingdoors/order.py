"""Lots in their order: what two of them share, and what they span."""

from fittingdoors.lots import need_lot
from fittingdoors.turning import closed_lot


def met(lot, other, number):
    """The lot of all partings that are in both."""
    need_lot(lot, number)
    need_lot(other, number)
    return tuple([parting for parting in lot if parting in other])


def spanned(lot, other, number):
    """The closed lot of all partings that are in either."""
    need_lot(lot, number)
    need_lot(other, number)
    return closed_lot(tuple(sorted(set([*lot, *other]))), number)
