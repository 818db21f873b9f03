"""Texts of partings, lots, pieces and forms."""

from fittingdoors.forms import is_leaf, look_at_form
from fittingdoors.lots import need_lot
from fittingdoors.partings import need_parting
from fittingdoors.pieces import need_piece


def items_in_line(items):
    """A line of these integers and words."""
    return " ".join([str(item) for item in items])


def parting_text(parting):
    """The text of a parting."""
    return items_in_line(need_parting(parting))


def lot_text(lot, number):
    """The text of a lot."""
    need_lot(lot, number)
    return "\n".join([str(number), *[items_in_line(parting) for parting in lot]])


def end_item(end):
    """The item for an end of a piece."""
    knot, place = end
    return "d" + str(place) if knot == -1 else str(knot) + "lrw"[place]


def lines_of_piece(piece):
    """The lines of the text of what is known to be a piece."""
    doors, knots, lines = piece
    return [items_in_line([doors, *knots]), *[end_item(one) + " " + end_item(two) for one, two in lines]]


def piece_text(piece):
    """The text of a piece."""
    return "\n".join(lines_of_piece(need_piece(piece)))


def text_of_form(form):
    """The text of what is known to be a form."""
    if is_leaf(form):
        return str(form)
    word, left, right = form
    return "(" + text_of_form(left) + (" * " if word == "both" else " + ") + text_of_form(right) + ")"


def form_text(form):
    """The text of a form."""
    look_at_form(form)
    return text_of_form(form)
