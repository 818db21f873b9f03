"""Partings: which doors are in one block."""

from fittingdoors.errors import BadNumber, BadParting, TooGreat
from fittingdoors.kinds import is_integer, is_integer_within, is_tuple_within

MOST_DOORS = 60
MOST_LISTED_DOORS = 8
MOST_LISTED = 5000


def first_wrong_block(blocks):
    """The place of the first thing that is no number that a block can have there, or None."""
    many = 0
    for place, block in enumerate(blocks):
        # What kinds tells elsewhere is written out: no value is looked at more often.
        if not isinstance(block, int) or isinstance(block, bool) or block < 0 or block > many:
            return place
        if block == many:
            many += 1
    return None


def is_parting(value):
    """Whether a value is a parting."""
    return is_tuple_within(value, 1, MOST_DOORS) and first_wrong_block(value) is None


def need_parting(parting):
    """The parting; BadParting of any other value."""
    if not is_tuple_within(parting, 1, MOST_DOORS):
        raise BadParting(None)
    place = first_wrong_block(parting)
    if place is not None:
        raise BadParting(place)
    return tuple(parting)


def need_parting_of(parting, doors):
    """The parting; BadParting, behind it BadNumber of one that has not so many doors."""
    need_parting(parting)
    if len(parting) != doors:
        raise BadNumber(len(parting))
    return tuple(parting)


def need_two_partings(parting, other):
    """Look at two partings that must have equally many doors."""
    need_parting(parting)
    need_parting_of(other, len(parting))


def numbered(blocks):
    """The parting that has two doors in one block if the things at their places are equal."""
    numbers = {}
    return tuple([numbers.setdefault(block, len(numbers)) for block in blocks])


def parting_of(blocks):
    """The parting in which two doors are in one block exactly if their integers are equal."""
    if not is_tuple_within(blocks, 1, MOST_DOORS):
        raise BadParting(None)
    for place, block in enumerate(blocks):
        if not is_integer(block):
            raise BadParting(place)
    return numbered(blocks)


def block_count(parting):
    """How many blocks a parting has that is known to be one."""
    return max(parting) + 1


def size_of(parting):
    """How many blocks a parting has."""
    need_parting(parting)
    return block_count(parting)


def doors_by_block(parting):
    """For each block the list of its doors, of what is known to be a parting."""
    rows = [[] for _ in range(block_count(parting))]
    for door, block in enumerate(parting):
        rows[block].append(door)
    return rows


def blocks_of(parting):
    """For each block the tuple of its doors, ascending."""
    need_parting(parting)
    return tuple([tuple(row) for row in doors_by_block(parting)])


def partings_of_doors(doors):
    """All partings of so many doors, ascending, for a number that is known to be small."""
    rows = [(0,)]
    for _ in range(doors - 1):
        rows = [row + (block,) for row in rows for block in range(max(row) + 2)]
    return tuple(rows)


def partings_into(doors, blocks):
    """All partings of so many doors with so many blocks, ascending, for a number that is known to be small."""
    rows = [((0,), 1)]
    for door in range(1, doors):
        # Each door that is left can bring one block more.
        least = blocks - (doors - 1 - door)
        rows = [((*row, block), max(many, block + 1)) for row, many in rows
                for block in range(min(many + 1, blocks)) if max(many, block + 1) >= least]
    return tuple([row for row, _ in rows])


def all_partings(number):
    """All partings of so many doors, ascending."""
    if not is_integer_within(number, 1, MOST_DOORS):
        raise BadNumber(number)
    if number > MOST_LISTED_DOORS:
        raise TooGreat(MOST_LISTED)
    return partings_of_doors(number)
