"""Pieces that are alike in all surroundings, and pieces that may stand for others."""

from fittingdoors.errors import BadNumber
from fittingdoors.lotting import need_few_doors
from fittingdoors.meeting import meets
from fittingdoors.sweeps import Leaving
from fittingdoors.turning import turned_lot


def turned_of(leaving, doors):
    """Turned of the piece whose settings leave this, () if it is not sound."""
    if leaving.bad is not None:
        return ()
    return turned_lot(tuple(sorted(leaving.least)), doors)


def turned_piece(piece):
    """Turned of the lot of a piece, () if it is not sound."""
    need_few_doors(piece)
    return turned_of(Leaving(piece), piece[0])


def look_at_two(piece, other):
    """Look at two pieces that must have as many doors."""
    need_few_doors(piece)
    need_few_doors(other)
    if piece[0] != other[0]:
        raise BadNumber(other[0])


def least_against(leaving, parting):
    """The least setting that is barred or leaves what does not meet this parting in a tree, or None."""
    settings = [leaving.least[left] for left in leaving.least if not meets(left, parting)]
    if leaving.bad is not None:
        settings.append(leaving.bad)
    return min(settings, default=None)


def parted(piece, other):
    """None if the pieces are alike, otherwise the least parting that parts them, which piece it fits, and a
    setting of the one that it does not fit."""
    look_at_two(piece, other)
    rows = [Leaving(piece), Leaving(other)]
    first, second = [turned_of(leaving, piece[0]) for leaving in rows]
    apart = [parting for parting in [*first, *second] if (parting in first) != (parting in second)]
    if len(apart) == 0:
        return None
    least = min(apart)
    which = 0 if least in first else 1
    return least, which, least_against(rows[1 - which], least)


def goes_for(piece, other):
    """None if the first piece may stand for the other one everywhere, otherwise the least parting that fits only
    the other one, and a setting of the first that it does not fit."""
    look_at_two(piece, other)
    leaving = Leaving(piece)
    first = turned_of(leaving, piece[0])
    apart = [parting for parting in turned_of(Leaving(other), piece[0]) if parting not in first]
    if len(apart) == 0:
        return None
    return apart[0], least_against(leaving, apart[0])
