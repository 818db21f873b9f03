"""Which two doors of a lot are in one block: always, sometimes or never."""

from fittingdoors.lots import need_some_lot


def word_for(lot, door, other):
    """How often two doors are in one block in a lot that is not empty."""
    many = len([parting for parting in lot if parting[door] == parting[other]])
    if many == 0:
        return "never"
    return "always" if many == len(lot) else "sometimes"


def doors_joined(lot, number):
    """For each two doors, ascending, how often they are in one block."""
    need_some_lot(lot, number)
    return tuple([(one, two, word_for(lot, one, two)) for one in range(number) for two in range(one + 1, number)])
