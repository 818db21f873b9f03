"""Which parting is finer, and what is above and below two partings."""

from fittingdoors.clumps import Clumps
from fittingdoors.partings import block_count, need_two_partings, numbered


def lies_within(parting, other):
    """Whether each block of the one lies in one block of the other."""
    above = {}
    for low, high in zip(parting, other):
        if above.setdefault(low, high) != high:
            return False
    return True


def is_finer(parting, other):
    """Whether the first parting is finer than the other one."""
    need_two_partings(parting, other)
    return lies_within(parting, other)


def finest_above(parting, other):
    """The finest parting that both are finer than."""
    need_two_partings(parting, other)
    many = block_count(parting)
    clumps = Clumps(many + block_count(other))
    for low, high in zip(parting, other):
        clumps.unite(low, many + high)
    return numbered([clumps.head(block) for block in parting])


def coarsest_below(parting, other):
    """The coarsest parting that is finer than both."""
    need_two_partings(parting, other)
    return numbered(list(zip(parting, other)))
