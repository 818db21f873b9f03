"""What a sound piece leaves open, and partings that are finished to fit it."""

from fittingdoors.errors import BadNumber
from fittingdoors.frames import frame_of
from fittingdoors.lotting import all_left, need_few_settings, need_sound
from fittingdoors.partings import doors_by_block, need_parting_of, numbered
from fittingdoors.sweeps import rings_with


def need_sound_with_doors(piece):
    """Look at a sound piece with doors and with few settings."""
    need_few_settings(piece)
    if piece[0] == 0:
        raise BadNumber(0)
    need_sound(piece)


def left_partings(piece):
    """All partings that the settings leave, ascending."""
    need_sound_with_doors(piece)
    return all_left(piece)


def is_open_for(frame, parting):
    """Whether a parting has no ring with what any setting of the frame leaves."""
    return not rings_with(frame, doors_by_block(parting))


def is_open(piece, parting):
    """Whether a parting is open for the piece."""
    need_sound_with_doors(piece)
    need_parting_of(parting, piece[0])
    return is_open_for(frame_of(piece), parting)


def made_one(parting, door, other):
    """The parting with the blocks of two doors made one."""
    return numbered([parting[door] if block == parting[other] else block for block in parting])


def finished(piece, parting):
    """What comes when the parting is finished, None if it is not open."""
    need_sound_with_doors(piece)
    need_parting_of(parting, piece[0])
    frame = frame_of(piece)
    if not is_open_for(frame, parting):
        return None
    told = tuple(parting)
    # What rings with a parting rings with each one that this is finer than: so two blocks that
    # could not be made one never can be, and going once through the pairs is enough.
    shut = []
    for door in range(piece[0]):
        for other in range(door + 1, piece[0]):
            blocks = sorted([told[door], told[other]])
            known = [sorted([told[one], told[two]]) for one, two in shut]
            if told[door] != told[other] and blocks not in known:
                coarser = made_one(told, door, other)
                if is_open_for(frame, coarser):
                    told = coarser
                else:
                    shut.append((door, other))
    return told


def free_pairs(piece):
    """All pairs of doors that no setting leaves in one block, ascending."""
    need_sound_with_doors(piece)
    doors = list(range(piece[0]))
    # Sets of doors are kept as integers, door by door a bit.
    joined = [0] * piece[0]
    for parting in all_left(piece):
        blocks = {}
        for door, block in enumerate(parting):
            blocks[block] = blocks.get(block, 0) | (1 << door)
        joined = [old | blocks[block] for old, block in zip(joined, parting)]
    return tuple([(one, two) for one in doors for two in doors[one + 1:] if (joined[one] >> two) & 1 == 0])
