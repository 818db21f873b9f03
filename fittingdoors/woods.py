"""Pieces in woods: no ring is allowed, but parts are."""

from fittingdoors.errors import BadNumber, NotSound
from fittingdoors.frames import frame_of
from fittingdoors.lots import need_lot
from fittingdoors.lotting import need_few_doors, need_few_settings
from fittingdoors.partings import numbered, partings_of_doors
from fittingdoors.settings import need_setting
from fittingdoors.sweeps import least_ringing, partings_left
from fittingdoors.turning import has_no_rings


def wood_left_by(piece, setting):
    """How a setting parts the doors, () without doors, None if it leaves a ring."""
    need_setting(piece, setting)
    frame = frame_of(piece)
    clumps = frame.joined_by(setting)
    return None if clumps is None else numbered([clumps.head(line) for line in frame.ends])


def ringing_setting(piece):
    """The least setting that leaves a ring, or None."""
    need_few_settings(piece)
    return least_ringing(frame_of(piece))


def wood_lot(piece):
    """The wood lot of a piece with 1 to 6 doors."""
    need_few_doors(piece)
    frame = frame_of(piece)
    told = partings_left(frame, False)
    if told is None:
        raise NotSound(least_ringing(frame))
    return told


def turned_in_wood(lot, number):
    """All partings that meet each of what is known to be a lot in a wood."""
    return tuple([parting for parting in partings_of_doors(number) if has_no_rings(parting, lot)])


def wood_turned(lot, number):
    """All partings that meet each of a lot in a wood."""
    return turned_in_wood(need_lot(lot, number), number)


def wood_closed(lot, number):
    """The lot, turned twice in woods."""
    return turned_in_wood(turned_in_wood(need_lot(lot, number), number), number)


def wood_parted(piece, other):
    """The least parting that meets in a wood all of just one of two wood lots, or None."""
    lot = wood_lot(piece)
    other_lot = wood_lot(other)
    if piece[0] != other[0]:
        raise BadNumber(other[0])
    for parting in partings_of_doors(piece[0]):
        if has_no_rings(parting, lot) != has_no_rings(parting, other_lot):
            return parting
    return None
