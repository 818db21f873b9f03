"""Whether a piece is sound, and which partings its settings leave."""

from fittingdoors.errors import NotSound, TooGreat
from fittingdoors.frames import frame_of
from fittingdoors.lots import MOST_LOT_DOORS
from fittingdoors.partings import need_parting
from fittingdoors.pieces import need_piece
from fittingdoors.sweeps import Leaving, least_barred, least_barred_of, partings_left

MOST_EITHER_KNOTS = 12


def look_at_settings(piece):
    """Look whether what is known to be a piece has few settings."""
    if piece[1].count("either") > MOST_EITHER_KNOTS:
        raise TooGreat(MOST_EITHER_KNOTS)


def need_few_settings(piece):
    """Look at a piece all settings of which are to be gone through."""
    need_piece(piece)
    look_at_settings(piece)


def need_few_doors(piece):
    """Look at a piece with few settings that has to have 1 to 6 doors."""
    need_few_settings(piece)
    if piece[0] < 1 or piece[0] > MOST_LOT_DOORS:
        raise TooGreat(MOST_LOT_DOORS)


def is_sound(piece):
    """Whether no setting of the piece is barred."""
    need_few_settings(piece)
    return least_barred(piece) is None


def bad_setting(piece):
    """The least barred setting, or None."""
    need_few_settings(piece)
    return least_barred(piece)


def need_sound(piece):
    """The piece; NotSound of one that has a barred setting."""
    need_few_settings(piece)
    setting = least_barred(piece)
    if setting is not None:
        raise NotSound(setting)
    return tuple(piece)


def all_left(piece):
    """All partings that the settings of a piece with doors leave, ascending; NotSound if it is not sound."""
    frame = frame_of(piece)
    told = partings_left(frame, True)
    if told is None:
        raise NotSound(least_barred_of(frame))
    return told


def lot_of(piece):
    """The lot of a sound piece with 1 to 6 doors."""
    need_few_doors(piece)
    return all_left(piece)


def settings_leaving(piece, parting):
    """How many settings leave this parting."""
    need_few_doors(piece)
    need_parting(parting)
    return Leaving(piece).counts.get(tuple(parting), 0)
