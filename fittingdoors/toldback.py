"""Forms told back from lots."""

from fittingdoors.forms import piece_of_form
from fittingdoors.lots import need_lot
from fittingdoors.lotting import all_left
from fittingdoors.mating import candidate, least_way, mates_in
from fittingdoors.turning import turned_lot


def first_without(rows, other):
    """The first of these partings that isn't among the other ones, or None."""
    for parting in rows:
        if parting not in other:
            return parting
    return None


def first_difference(form, rows, words, other):
    """A word and the first parting that is just in the first rows, or just in the other ones.

    If there is none: "form" and the form.
    """
    for word, here, there in ((words[0], rows, other), (words[1], other, rows)):
        parting = first_without(here, there)
        if parting is not None:
            return word, parting
    return "form", form


def form_of_lot(lot, number):
    """The form whose lot this is, or why there is none."""
    need_lot(lot, number)
    mates = mates_in(lot, number)
    way = least_way(mates)
    if way is not None:
        return "way", way
    form = candidate(mates)
    return first_difference(form, all_left(piece_of_form(form)), ("lacks", "more"), lot)


def form_alike(lot, number):
    """The form whose lot is alike to this one when turned, or why there is none."""
    need_lot(lot, number)
    guards = turned_lot(lot, number)
    mates = mates_in(turned_lot(guards, number), number)
    way = least_way(mates)
    if way is not None:
        return "way", way
    form = candidate(mates)
    return first_difference(form, guards, ("first", "second"), turned_lot(all_left(piece_of_form(form)), number))
