"""The forms between two lots."""

from fittingdoors.errors import BadNumber
from fittingdoors.formcounts import MOST_LISTED_LEAVES
from fittingdoors.forms import exchanged, is_leaf, piece_of_form
from fittingdoors.kinds import is_integer_within
from fittingdoors.lots import look_at_lot
from fittingdoors.mating import forms_with, mates_in
from fittingdoors.melting import melted
from fittingdoors.partings import block_count, doors_by_block


def all_meet(lot, form):
    """Whether each parting of a lot meets each one of the lot of a form in a tree."""
    piece = piece_of_form(form)
    for parting in lot:
        if melted(piece, doors_by_block(parting)).end() != "one":
            return False
    return True


def choices_of_webs(lot, other, number):
    """For each pair of doors, as a web has them, what the web of a form between two lots can tell of it.

    In the lot of such a form mates of the first lot must be mates, in that of its dual those of
    the second one.
    """
    mates = mates_in(lot, number)
    other_mates = mates_in(other, number)
    return [tuple(range(mates[one][two], 2 - other_mates[one][two])) for two in range(number) for one in range(two)]


def knots_wanted(lot, other, number):
    """The numbers of EITHER knots that a form between two lots must have; there may be several, or none."""
    told = [block_count(parting) - 1 for parting in lot] + [number - block_count(parting) for parting in other]
    return sorted(set(told))


def forks_in(form):
    """How many EITHER knots a form has."""
    if is_leaf(form):
        return 0
    word, left, right = form
    return forks_in(left) + forks_in(right) + (1 if word == "either" else 0)


def forms_between(lot, other, number):
    """All plain forms between two lots, by their webs ascending."""
    if not is_integer_within(number, 1, MOST_LISTED_LEAVES):
        raise BadNumber(number)
    look_at_lot(lot, number)
    look_at_lot(other, number)
    wanted = knots_wanted(lot, other, number)
    if len(wanted) > 1:
        return ()
    forms = forms_with(number, choices_of_webs(lot, other, number))
    # Melting would tell the number of knots as well, but later.
    forms = [form for form in forms if forks_in(form) in wanted or len(wanted) == 0]
    # What meets the lot of the dual is the closed lot.
    return tuple([form for form in forms if all_meet(lot, exchanged(form)) and all_meet(other, form)])
