"""How many plain forms there are, and all with few doors."""

from math import comb

from fittingdoors.errors import BadNumber
from fittingdoors.forms import MOST_LEAVES
from fittingdoors.kinds import is_integer_within
from fittingdoors.mating import forms_with

MOST_LISTED_LEAVES = 5


def form_count(number):
    """How many plain forms with so many doors there are."""
    if not is_integer_within(number, 1, MOST_LEAVES):
        raise BadNumber(number)
    # LIMBS has for each number of doors how many limbs of one word there are: a door, or a form
    # that begins with the other word. ROWS has how many sets of limbs there are, of one or more.
    limbs = [0, 1]
    rows = [1, 1]
    for doors in range(2, number + 1):
        # The limb that has the first door, and what is beside it; as many forms begin with either word.
        many = sum([comb(doors - 1, size - 1) * limbs[size] * rows[doors - size] for size in range(1, doors)])
        limbs.append(many)
        rows.append(2 * many)
    return rows[number]


def all_forms(number):
    """All plain forms with so many doors, by their webs ascending."""
    if not is_integer_within(number, 1, MOST_LISTED_LEAVES):
        raise BadNumber(number)
    return forms_with(number, [(0, 1)] * (number * (number - 1) // 2))
