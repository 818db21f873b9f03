"""Partings of which only some doors are told, and how they can be completed."""

from math import factorial

from fittingdoors.clumps import Clumps
from fittingdoors.errors import BadNumber, BadParting, TooGreat
from fittingdoors.kinds import is_integer, is_integer_within
from fittingdoors.meeting import meets
from fittingdoors.partings import block_count, need_parting, need_parting_of, numbered

MOST_NUMBERED_DOORS = 30


def need_half(parting, half):
    """Look at a half with as many doors as the parting."""
    if not isinstance(half, tuple) or len(half) != len(parting):
        raise BadParting(None)
    many = 0
    for place, told in enumerate(half):
        if told is not None:
            if not is_integer_within(told, 0, many):
                raise BadParting(place)
            if told == many:
                many += 1


def told_count(half):
    """How many blocks a half tells."""
    return max([told for told in half if told is not None], default=-1) + 1


def web_counts(parting, half):
    """For each piece of the web of the parting and the told blocks how many of these, and how
    many open doors it has; None if the web has a ring."""
    many = block_count(parting)
    told_blocks = told_count(half)
    clumps = Clumps(many + told_blocks)
    for block, told in zip(parting, half):
        if told is not None and not clumps.unite(block, many + told):
            return None
    heads = [clumps.head(place) for place in range(many + told_blocks)]
    counts = {head: [0, 0] for head in heads}
    for head in heads[many:]:
        counts[head][0] += 1
    for block, told in zip(parting, half):
        if told is None:
            counts[heads[block]][1] += 1
    return [(told, free) for told, free in counts.values()]


def times_linear(row, low, high):
    """The coefficients of the polynomial with these ones, times LOW + HIGH * z."""
    return [low * here + high * there for here, there in zip([*row, 0], [0, *row])]


def products(counts):
    """The coefficients that the document calls A and B."""
    whole = [1]
    marked = [0]
    for told, free in counts:
        once = [*[told * free * here for here in whole], 0]
        marked = [here + there for here, there in zip(times_linear(marked, told, free), once)]
        whole = times_linear(whole, told, free)
    return whole, marked


def weighed(coefficients, base, most):
    """The sum of each coefficient with its power of BASE and the factorial that is left of MOST."""
    told = 0
    power = 1
    for place, coefficient in enumerate(coefficients):
        if place <= most:
            told += power * coefficient * factorial(most - place)
        power *= base
    return told


def counted(parting, half):
    """How many completions there are, of what is known to be a parting and a half.

    The integers of the half may stand in any order here, but none is left out.
    """
    counts = web_counts(parting, half)
    if counts is None:
        return 0
    free = sum([here for _, here in counts])
    fresh = free - len(counts) + 1
    if fresh < 0:
        return 0
    base = fresh + told_count(half)
    whole, marked = products(counts)
    above = weighed(whole, base, free) - weighed(marked, base, free - 1)
    return above // (base * factorial(fresh))


def completions_number(parting, half):
    """How many completions of the half there are for the parting."""
    need_parting(parting)
    need_half(parting, half)
    return counted(parting, half)


def choices(parting, half, door):
    """The blocks into which an open door can go, each with the number of completions then."""
    rows = []
    for block in range(told_count(half) + 1):
        told = (*half[:door], block, *half[door + 1:])
        rows.append((block, counted(parting, told)))
    return rows


def open_doors(half):
    """The doors that are not told, ascending."""
    return [door for door, told in enumerate(half) if told is None]


def completion_at(parting, half, number):
    """The completion with this number."""
    need_parting(parting)
    need_half(parting, half)
    if not is_integer(number) or number < 0:
        raise BadNumber(number)
    if len(parting) > MOST_NUMBERED_DOORS:
        raise TooGreat(MOST_NUMBERED_DOORS)
    if number >= counted(parting, half):
        raise BadNumber(number)
    ahead = number
    filled = half
    for door in open_doors(half):
        for block, many in choices(parting, filled, door):
            if ahead < many:
                filled = (*filled[:door], block, *filled[door + 1:])
                break
            ahead -= many
    return numbered(filled)


def code_blocks(half, other):
    """For each block of a parting the number that it has in a code, None if it is no completion.

    Told blocks have the integers of the half, the others the next ones along the open doors.
    """
    blocks = {}
    for told, block in zip(half, other):
        if told is not None and blocks.setdefault(block, told) != told:
            return None
    if len(blocks) != told_count(half):
        return None
    for door in open_doors(half):
        blocks.setdefault(other[door], len(blocks))
    return blocks


def number_of_completion(parting, half, other):
    """The number of a parting among the completions, or None."""
    need_parting(parting)
    need_half(parting, half)
    need_parting_of(other, len(parting))
    if len(parting) > MOST_NUMBERED_DOORS:
        raise TooGreat(MOST_NUMBERED_DOORS)
    blocks = code_blocks(half, other)
    if blocks is None or not meets(parting, other):
        return None
    ahead = 0
    filled = half
    for door in open_doors(half):
        goal = blocks[other[door]]
        for block in range(goal):
            ahead += counted(parting, (*filled[:door], block, *filled[door + 1:]))
        filled = (*filled[:door], goal, *filled[door + 1:])
    return ahead
