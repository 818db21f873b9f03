"""The partings between two partings, counted and numbered."""

from fittingdoors.errors import BadNumber
from fittingdoors.finer import lies_within
from fittingdoors.kinds import is_integer
from fittingdoors.partings import need_parting_of, need_two_partings


def growths(most):
    """rows[left][made]: how many ways to put LEFT things more into MADE blocks and new ones."""
    rows = [[1] * (most + 1)]
    for left in range(1, most + 1):
        last = rows[-1]
        rows.append([made * last[made] + last[made + 1] for made in range(most + 1 - left)])
    return rows


def inner_blocks(parting, other):
    """For each block of the other parting, how many blocks of the first one lie in it."""
    counts = {}
    for _, high in sorted(set(list(zip(parting, other)))):
        counts[high] = counts.get(high, 0) + 1
    return counts


def first_doors(parting):
    """For each door whether no door ahead of it is in its block."""
    seen = set()
    flags = []
    for block in parting:
        flags.append(block not in seen)
        seen.add(block)
    return flags


class Between:
    """The partings between two partings, as they are made door by door.

    Only the first door of a block of the finer parting has a choice: it goes into a block that
    was made in its block of the coarser parting, or into a new one.
    """

    def __init__(self, parting, other):
        self.parting = parting
        self.other = other
        self.left = inner_blocks(parting, other)
        self.made = {high: [] for high in self.left}
        self.growths = growths(len(parting))
        self.blocks = {}
        self.number = 1
        for high in self.left:
            self.number *= self.growths[self.left[high]][0]

    def choices(self, door):
        """The blocks into which a first door can go, each with the number of ways to go on."""
        high = self.other[door]
        made = self.made[high]
        left = self.left[high]
        rest = self.number // self.growths[left][len(made)]
        old = rest * self.growths[left - 1][len(made)]
        new = rest * self.growths[left - 1][len(made) + 1]
        fresh = sum([len(row) for row in self.made.values()])
        return [*[(block, old) for block in made], (fresh, new)]

    def choose(self, door, block, number):
        """Put a first door into a block, with which this number of ways to go on is left."""
        high = self.other[door]
        if block not in self.made[high]:
            self.made[high].append(block)
        self.left[high] -= 1
        self.blocks[self.parting[door]] = block
        self.number = number


def between_number(parting, other):
    """How many partings are between the two."""
    need_two_partings(parting, other)
    if not lies_within(parting, other):
        return 0
    return Between(parting, other).number


def between_at(parting, other, number):
    """The parting between the two that has this number."""
    need_two_partings(parting, other)
    if not is_integer(number) or number < 0 or not lies_within(parting, other):
        raise BadNumber(number)
    made = Between(parting, other)
    if number >= made.number:
        raise BadNumber(number)
    ahead = number
    for door, is_first in enumerate(first_doors(parting)):
        if is_first:
            rows = made.choices(door)
            for block, many in rows:
                if ahead < many:
                    made.choose(door, block, many)
                    break
                ahead -= many
    return tuple([made.blocks[block] for block in parting])


def number_between(parting, other, third):
    """The number of the third parting among those between the two, or None."""
    need_two_partings(parting, other)
    need_parting_of(third, len(parting))
    if not lies_within(parting, third) or not lies_within(third, other):
        return None
    made = Between(parting, other)
    ahead = 0
    for door, is_first in enumerate(first_doors(parting)):
        if is_first:
            rows = made.choices(door)
            for block, many in rows:
                if block == third[door]:
                    made.choose(door, block, many)
                    break
                ahead += many
    return ahead
