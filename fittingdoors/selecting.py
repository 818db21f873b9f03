"""Partings of some doors, and of the doors of two partings beside one another."""

from fittingdoors.errors import BadDoor, TooGreat
from fittingdoors.kinds import is_integer_within, is_tuple_within
from fittingdoors.partings import MOST_DOORS, block_count, need_parting, numbered


def need_some_doors(doors, many):
    """Look at a tuple of unlike doors out of so many."""
    if not is_tuple_within(doors, 1, MOST_DOORS):
        raise BadDoor(doors)
    seen = set()
    for door in doors:
        if not is_integer_within(door, 0, many - 1) or door in seen:
            raise BadDoor(door)
        seen.add(door)


def parting_of_some(parting, doors):
    """The parting of these doors, in the order in which they are passed."""
    need_parting(parting)
    need_some_doors(doors, len(parting))
    return numbered([parting[door] for door in doors])


def beside(parting, other):
    """The parting of the doors of both, no block of which holds doors of both."""
    need_parting(parting)
    need_parting(other)
    if len(parting) + len(other) > MOST_DOORS:
        raise TooGreat(MOST_DOORS)
    many = block_count(parting)
    return tuple([*parting, *[many + block for block in other]])
