"""How two partings meet: in a tree, in a wood, and with which ring."""

from fittingdoors.kinds import is_integer_within
from fittingdoors.partings import block_count, need_two_partings


def has_no_ring(parting, other):
    """Whether two partings with equally many doors have no ring."""
    many = block_count(parting)
    # What clumps tells elsewhere is written out: no question is asked more often.
    heads = list(range(many + block_count(other)))
    for low, high in zip(parting, other):
        high += many
        while heads[low] != low:
            low = heads[low]
        while heads[high] != high:
            high = heads[high]
        if low == high:
            return False
        heads[high] = low
    return True


def meets(parting, other):
    """Whether two partings with equally many doors meet in a tree."""
    if block_count(parting) + block_count(other) != len(parting) + 1:
        return False
    # With so many blocks a web without a ring is in one piece.
    return has_no_ring(parting, other)


def meet_in_tree(parting, other):
    """Whether two partings meet in a tree."""
    need_two_partings(parting, other)
    return meets(parting, other)


def meet_in_wood(parting, other):
    """Whether two partings have no ring."""
    need_two_partings(parting, other)
    return has_no_ring(parting, other)


def has_like(things):
    """Whether two of these integers are equal."""
    return len(set(things)) != len(things)


def is_ring(parting, other, doors):
    """Whether a value is a ring of two partings."""
    need_two_partings(parting, other)
    if not isinstance(doors, tuple) or len(doors) == 0 or len(doors) & 1 == 1:
        return False
    for door in doors:
        if not is_integer_within(door, 0, len(parting) - 1):
            return False
    lows = [parting[door] for door in doors]
    highs = [other[door] for door in [*doors[1:], doors[0]]]
    if has_like(doors) or has_like(lows[::2]) or has_like(highs[::2]):
        return False
    return lows[::2] == lows[1::2] and highs[::2] == highs[1::2]


def doors_ahead(parts, start, doors, begins):
    """For each of these doors that is reached from START the door ahead of it on its way.

    PARTS are the two partings, BEGINS tells by the block of which of them a way may begin. The
    doors stand in the order in which they are reached.
    """
    ahead = {start: None}
    queue = [(which, start) for which in begins]
    at = 0
    while at < len(queue):
        which, door = queue[at]
        part = parts[which]
        for near in doors:
            if part[near] == part[door] and near not in ahead:
                ahead[near] = door
                queue.append((1 - which, near))
        at += 1
    return ahead


def way_back(ahead, door):
    """The doors from this one back to the one where the ways begin."""
    doors = []
    while door is not None:
        doors.append(door)
        door = ahead[door]
    return doors


def ring_up_to(parting, other, last):
    """The ring that begins with this door and has only lesser ones behind it, or None."""
    ahead = doors_ahead((parting, other), last, list(range(last)), (0,))
    for door in ahead:
        # The first door reached in the other block of the last one closes the ring.
        if door != last and other[door] == other[last]:
            return tuple(way_back(ahead, door)[::-1])
    return None


def ring(parting, other):
    """The ring that has the least greatest door, beginning with it, or None."""
    need_two_partings(parting, other)
    for last in range(len(parting)):
        found = ring_up_to(parting, other, last)
        if found is not None:
            return found
    return None
