"""The states of an alphabet: what its terms are to all surroundings."""

from heapq import heappop, heappush

from fittingdoors.letters import look_at_term, need_alphabet
from fittingdoors.terms import lot_above
from fittingdoors.turning import turned_lot


class States:
    """All states of an alphabet, numbered by their least terms.

    A least term has least terms of states at its bundles, and these have fewer letters: so the
    states are found one by one if always the least term that is waiting is looked at.
    """

    def __init__(self, alphabet):
        self.alphabet = alphabet
        # For each state its UP, its closed lot or None, its least term.
        self.known = []
        # For each state the lot of its least term and how many letters this has.
        self.lots = []
        self.sizes = []
        self.state_numbers = {}
        # For each letter and the states at its bundles the state that comes.
        self.steps = {}
        # What is sorted is a heap.
        waiting = sorted(self.uses())
        while len(waiting) > 0:
            if self.settle(heappop(waiting)):
                for use in self.uses():
                    heappush(waiting, use)

    def uses(self):
        """All terms of a letter and of least terms that could not be built ahead of the last state.

        Each stands behind its number of letters, and ahead of the states at its bundles.
        """
        last = len(self.known) - 1
        found = []
        for letter, (_, downs, _) in enumerate(self.alphabet):
            rows = [()]
            for width in downs:
                states = [state for state, (up, _, _) in enumerate(self.known) if up == width]
                rows = [(*row, state) for row in rows for state in states]
            for inner in rows:
                if last in inner or last == -1:
                    term = (letter, *[self.known[state][2] for state in inner])
                    found.append((1 + sum([self.sizes[state] for state in inner]), term, inner))
        return found

    def settle(self, use):
        """Note the state of a term; whether it is a new one."""
        size, term, inner = use
        letter = self.alphabet[term[0]]
        lot = lot_above(letter, [self.lots[state] for state in inner])
        guards = () if lot is None else turned_lot(lot, letter[0])
        if len(guards) == 0:
            # What nothing meets is told apart no further, nor is what is built over it.
            lot = None
        state = (letter[0], None if lot is None else turned_lot(guards, letter[0]))
        is_new = state not in self.state_numbers
        if is_new:
            self.state_numbers[state] = len(self.known)
            self.known.append((*state, term))
            self.lots.append(lot)
            self.sizes.append(size)
        self.steps[(term[0], inner)] = self.state_numbers[state]
        return is_new

    def state_at(self, term):
        """The number of the state of a term."""
        return self.steps[(term[0], tuple([self.state_at(inner) for inner in term[1:]]))]


def all_states(alphabet):
    """For each state its UP, its closed lot or None, and its least term."""
    return tuple(States(need_alphabet(alphabet)).known)


def state_of(alphabet, term):
    """The number of the state of a term."""
    need_alphabet(alphabet)
    look_at_term(alphabet, term)
    return States(alphabet).state_at(term)
