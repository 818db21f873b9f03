"""What is so for all terms of a system."""

from fittingdoors.errors import BadNumber
from fittingdoors.kinds import is_integer_within
from fittingdoors.letters import MOST_WIDTH, need_alphabet
from fittingdoors.partings import partings_of_doors
from fittingdoors.states import States
from fittingdoors.tables import is_standing
from fittingdoors.terms import need_system
from fittingdoors.turning import meets_all


def least_term(system, stands):
    """The least term with the width of a system as its UP that stands, or that doesn't, or None."""
    alphabet, width, goal = need_system(system)
    states = States(alphabet)
    # The states come by their least terms.
    for place, state in enumerate(states.told):
        if state[0] == width and is_standing(state, width, goal) == stands:
            return states.terms[place]
    return None


def least_standing(system):
    """The least term that stands, or None."""
    return least_term(system, True)


def least_fallen(system):
    """The least term with the width of the system as its UP that doesn't stand, or None."""
    return least_term(system, False)


def all_closers(alphabet, width):
    """All partings that meet each parting of each term with this UP in a tree."""
    need_alphabet(alphabet)
    if not is_integer_within(width, 1, MOST_WIDTH):
        raise BadNumber(width)
    told = partings_of_doors(width)
    for up, lot in States(alphabet).told:
        if up == width:
            told = () if lot is None else tuple([parting for parting in told if meets_all(parting, lot)])
    return told


class Sizes:
    """How great the terms of states can be."""

    def __init__(self, states):
        # For each state the tuples of states that stand at the bundles of its terms.
        self.rows = [[] for _ in states.told]
        for (_, inner), state in states.steps.items():
            self.rows[state].append(inner)
        # None while a state is looked at, and for one whose terms have no greatest size.
        self.greatest = {}

    def greatest_of(self, state):
        """The greatest number of letters of a term of this state, None if there is none."""
        if state not in self.greatest:
            # Every state has terms: one within itself has greater and greater ones.
            self.greatest[state] = None
            self.greatest[state] = self.greatest_of_rows(self.rows[state])
        return self.greatest[state]

    def greatest_of_rows(self, rows):
        """The greatest number of letters of a term with terms of such states at its bundles."""
        most = 0
        for inner in rows:
            sizes = [self.greatest_of(one) for one in inner]
            if None in sizes:
                return None
            most = max(most, 1 + sum(sizes))
        return most


def greatest_standing(system):
    """The greatest number of letters of a term that stands, None if there is none, 0 if none stands."""
    alphabet, width, goal = need_system(system)
    states = States(alphabet)
    sizes = Sizes(states)
    told = [sizes.greatest_of(place) for place, state in enumerate(states.told) if is_standing(state, width, goal)]
    return None if None in told else max(told, default=0)
