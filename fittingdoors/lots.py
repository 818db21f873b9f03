"""Lots: ascending tuples of partings with as many doors."""

from fittingdoors.errors import BadLot, BadNumber
from fittingdoors.kinds import is_integer_within
from fittingdoors.partings import is_parting

MOST_LOT_DOORS = 6


def need_lot_doors(number):
    """Look at the number of doors of a lot."""
    if not is_integer_within(number, 1, MOST_LOT_DOORS):
        raise BadNumber(number)


def lot_fault(value, number):
    """None for a lot of so many doors, otherwise the word for what is wrong first."""
    if not isinstance(value, tuple):
        return "tuple"
    last = ()
    for parting in value:
        if not is_parting(parting) or len(parting) != number:
            return "parting"
        if parting <= last:
            return "order"
        last = parting
    return None


def look_at_lot(lot, number):
    """BadLot unless this is a lot of so many doors."""
    word = lot_fault(lot, number)
    if word is not None:
        raise BadLot(word)


def need_lot(lot, number):
    """The lot of so many doors; BadNumber, then BadLot of any other value."""
    need_lot_doors(number)
    look_at_lot(lot, number)
    return tuple(lot)


def need_some_lot(lot, number):
    """The lot of so many doors, which must not be empty; BadLot("empty") behind the other errors."""
    need_lot(lot, number)
    if len(lot) == 0:
        raise BadLot("empty")
    return tuple(lot)
