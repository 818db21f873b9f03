"""How many partings meet one in a tree, and which."""

from math import comb, factorial

from fittingdoors.errors import BadNumber, TooGreat
from fittingdoors.kinds import is_integer_within, is_tuple_within
from fittingdoors.partings import MOST_DOORS, block_count, doors_by_block, need_parting

MOST_MEETING = 1000


def power(base, times):
    """The product of BASE, so many times."""
    told = 1
    for _ in range(times):
        told *= base
    return told


def block_product(parting):
    """The product of the numbers of doors of all blocks."""
    told = 1
    for row in doors_by_block(parting):
        told *= len(row)
    return told


def met_by(parting):
    """How many partings meet this one in a tree."""
    many = block_count(parting)
    if many == 1:
        return 1
    return block_product(parting) * power(len(parting) + 1 - many, many - 2)


def meeting_number(parting):
    """How many partings meet this one in a tree."""
    need_parting(parting)
    return met_by(parting)


def longer(row, block, many, most):
    """The beginnings of partings that are one door longer than this one, ascending.

    A row is a pair: the blocks so far, and for each of the MANY blocks of the parting to be met
    and for each block so far its piece of the web. BLOCK is that of the next door in the parting
    to be met. At most MOST blocks may come. Each beginning without a ring can be gone on with.
    """
    blocks, pieces = row
    here = pieces[block]
    rows = []
    for made, there in enumerate(pieces[many:]):
        if there != here:
            one = tuple([here if piece == there else piece for piece in pieces])
            rows.append((blocks + (made,), one))
    made = len(pieces) - many
    if made < most:
        rows.append((blocks + (made,), pieces + (here,)))
    return rows


def all_meeting(parting):
    """All partings that meet this one in a tree, ascending."""
    need_parting(parting)
    if met_by(parting) > MOST_MEETING:
        raise TooGreat(MOST_MEETING)
    many = block_count(parting)
    most = len(parting) + 1 - many
    rows = [((), tuple(range(many)))]
    for block in parting:
        rows = [new for row in rows for new in longer(row, block, many, most)]
    return tuple([blocks for blocks, _ in rows])


def is_sizes(value, doors):
    """Whether a value is a tuple of sizes of blocks, none greater than the one ahead."""
    if not is_tuple_within(value, 1, MOST_DOORS):
        return False
    last = MOST_DOORS
    for size in value:
        if not is_integer_within(size, 1, last):
            return False
        last = size
    return sum(value) == doors


def meeting_by_sizes(parting, sizes):
    """How many partings with blocks of these sizes meet this one in a tree."""
    need_parting(parting)
    if not is_sizes(sizes, len(parting)):
        raise BadNumber(sizes)
    many = block_count(parting)
    if many + len(sizes) != len(parting) + 1:
        return 0
    below = 1
    for size in sizes:
        below *= factorial(size - 1)
    for size in sorted(set(sizes)):
        below *= factorial(sizes.count(size))
    return factorial(many - 1) * factorial(len(sizes) - 1) * block_product(parting) // below


def meeting_pairs(number):
    """How many pairs of partings of so many doors meet in a tree."""
    if not is_integer_within(number, 1, MOST_DOORS):
        raise BadNumber(number)
    told = 1
    for many in range(2, number + 1):
        told += comb(number, many) * power(many, number - many) * power(number - many + 1, many - 2)
    return told
