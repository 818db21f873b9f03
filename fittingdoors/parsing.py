"""Partings, lots, pieces and forms that are read from their texts."""

from fittingdoors.errors import BadText
from fittingdoors.forms import look_at_form
from fittingdoors.lots import need_lot
from fittingdoors.partings import need_parting
from fittingdoors.pieces import need_piece
from fittingdoors.reading import read_form, read_lot, read_parting, read_piece


def need_text(text):
    """Look at what must be a string."""
    if not isinstance(text, str):
        raise BadText(None, None)


def parse_parting(text):
    """The parting with this text."""
    need_text(text)
    return need_parting(read_parting(text))


def parse_lot(text):
    """The lot with this text, and its number of doors."""
    need_text(text)
    lot, number = read_lot(text)
    return need_lot(lot, number), number


def parse_piece(text):
    """The piece with this text, lines and ends in its order."""
    need_text(text)
    return need_piece(read_piece(text))


def parse_form(text):
    """The form with this text."""
    need_text(text)
    told = read_form(text)
    look_at_form(told)
    return told
