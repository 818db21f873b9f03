"""The states of an alphabet: what its terms are to all surroundings."""

from fittingdoors.letters import look_at_term, need_alphabet
from fittingdoors.terms import lot_above
from fittingdoors.turning import turned_lot
from fittingdoors.walking import Walk


class States(Walk):
    """All states of an alphabet: each is told by its UP and its closed lot, or None in its place."""

    def __init__(self, alphabet):
        Walk.__init__(self, alphabet)
        # For each state the lot of its least term, which is smaller than its closed lot.
        self.least_lots = {}
        self.run()

    def come_to(self, letter, inner):
        """The state of a term with this first letter and with terms of these states at its bundles."""
        up = self.alphabet[letter][0]
        lot = lot_above(self.alphabet[letter], [self.least_lots[self.told[state]] for state in inner])
        guards = () if lot is None else turned_lot(lot, up)
        if len(guards) == 0:
            # What nothing meets is told apart no further, nor is what is built over it.
            self.least_lots[(up, None)] = None
            return up, None
        state = (up, turned_lot(guards, up))
        self.least_lots.setdefault(state, lot)
        return state


def all_states(alphabet):
    """For each state its UP, its closed lot or None, and its least term."""
    states = States(need_alphabet(alphabet))
    return tuple([(up, lot, term) for (up, lot), term in zip(states.told, states.terms)])


def state_of(alphabet, term):
    """The number of the state of a term."""
    need_alphabet(alphabet)
    look_at_term(alphabet, term)
    return States(alphabet).number_at(term)
