"""The lots of forms with many doors, told by places."""

from fittingdoors.errors import BadNumber
from fittingdoors.forms import look_at_form, piece_of_form
from fittingdoors.kinds import is_integer_within
from fittingdoors.melting import barred_when_melted, melted
from fittingdoors.partings import doors_by_block, need_parting_of
from fittingdoors.settings import left_by
from fittingdoors.tallies import Tally


def form_lot_size(form):
    """How many partings the lot of a form has."""
    look_at_form(form)
    return Tally(form).in_all()


def form_parting(form, place):
    """The parting at this place of the lot of a form."""
    look_at_form(form)
    tally = Tally(form)
    if not is_integer_within(place, 0, tally.in_all() - 1):
        raise BadNumber(place)
    told = []
    for door in range(len(tally.spots)):
        ways = tally.ways(door)
        block = 0
        while place >= ways[block]:
            place -= ways[block]
            block += 1
        tally.tell(door, block)
        told.append(block)
    return tuple(told)


def form_place(form, parting):
    """The place of a parting in the lot of a form, or None."""
    look_at_form(form)
    tally = Tally(form)
    need_parting_of(parting, len(tally.spots))
    ahead = 0
    for door, block in enumerate(parting):
        ways = tally.ways(door)
        if ways[block] == 0:
            return None
        ahead += sum(ways[:block])
        tally.tell(door, block)
    return ahead


def unmet(form, parting):
    """A parting of the lot of a form that doesn't meet this one in a tree, or None."""
    look_at_form(form)
    piece = piece_of_form(form)
    need_parting_of(parting, piece[0])
    setting = barred_when_melted(piece, melted(piece, doors_by_block(parting)))
    return None if setting is None else left_by(piece, setting)
