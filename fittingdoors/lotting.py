"""Whether a piece is sound, and which partings its settings leave."""

from fittingdoors.errors import NotSound, TooGreat
from fittingdoors.frames import Frame, settings_of
from fittingdoors.lots import MOST_LOT_DOORS
from fittingdoors.partings import need_parting
from fittingdoors.pieces import knots_of_sort, need_piece

MOST_EITHER_KNOTS = 12


def need_few_settings(piece):
    """Look at a piece all settings of which are to be gone through."""
    need_piece(piece)
    if len(knots_of_sort(piece, "either")) > MOST_EITHER_KNOTS:
        raise TooGreat(MOST_EITHER_KNOTS)


def need_few_doors(piece):
    """Look at a piece with few settings that has to have 1 to 6 doors."""
    need_few_settings(piece)
    if piece[0] < 1 or piece[0] > MOST_LOT_DOORS:
        raise TooGreat(MOST_LOT_DOORS)


def least_barred(piece):
    """The least barred setting, or None."""
    frame = Frame(piece)
    for setting in settings_of(len(frame.knots)):
        if frame.left_by(setting) is None:
            return setting
    return None


def is_sound(piece):
    """Whether no setting of the piece is barred."""
    need_few_settings(piece)
    return least_barred(piece) is None


def bad_setting(piece):
    """The least barred setting, or None."""
    need_few_settings(piece)
    return least_barred(piece)


def need_sound(piece):
    """The piece; NotSound of one that has a barred setting."""
    need_few_settings(piece)
    setting = least_barred(piece)
    if setting is not None:
        raise NotSound(setting)
    return tuple(piece)


def all_left(piece):
    """All that the settings leave, ascending; NotSound as soon as one is barred."""
    frame = Frame(piece)
    seen = set()
    for setting in settings_of(len(frame.knots)):
        parting = frame.left_by(setting)
        if parting is None:
            raise NotSound(setting)
        seen.add(parting)
    return tuple(sorted(seen))


def lot_of(piece):
    """The lot of a sound piece with 1 to 6 doors."""
    need_few_doors(piece)
    return all_left(piece)


def settings_leaving(piece, parting):
    """How many settings leave this parting."""
    need_few_doors(piece)
    need_parting(parting)
    frame = Frame(piece)
    return [frame.left_by(setting) for setting in settings_of(len(frame.knots))].count(tuple(parting))
