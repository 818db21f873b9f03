"""The lots of terms, and systems in which terms stand."""

from fittingdoors.errors import BadLetter, BadNumber
from fittingdoors.glueing import doors_left, join_lots
from fittingdoors.kinds import is_integer_within, is_tuple_within
from fittingdoors.letters import MOST_WIDTH, look_at_term, need_alphabet
from fittingdoors.lots import need_some_lot
from fittingdoors.partings import block_count
from fittingdoors.turning import meets_all


def lot_above(letter, lots):
    """The lot of a term with this first letter and with these lots at its bundles, None if it is barred."""
    up, downs, lot = letter
    doors = up + sum(downs)
    for width, other in zip(downs, lots):
        if lot is None or other is None:
            return None
        ties = [(up + door, doors + door) for door in range(width)]
        lot = join_lots(lot, other, ties, doors_left(doors + width, ties))
        doors -= width
    return lot


class TermLots:
    """The lots of the terms of an alphabet, as far as they have been asked for.

    Each lot has a number, and what comes of a letter and of lots is kept by their numbers: so it
    is told but once for all terms that are alike in their lots.
    """

    def __init__(self, alphabet):
        self.alphabet = alphabet
        self.lots = []
        self.lot_numbers = {}
        self.found = {}

    def number_of(self, lot):
        """The number of a lot, or of None."""
        if lot not in self.lot_numbers:
            self.lot_numbers[lot] = len(self.lots)
            self.lots.append(lot)
        return self.lot_numbers[lot]

    def lot_number(self, term):
        """The number of the lot of a term."""
        key = (term[0], tuple([self.lot_number(inner) for inner in term[1:]]))
        if key not in self.found:
            letter, numbers = key
            self.found[key] = self.number_of(lot_above(self.alphabet[letter], [self.lots[one] for one in numbers]))
        return self.found[key]

    def lot_at(self, term):
        """The lot of a term, None if it is barred."""
        return self.lots[self.lot_number(term)]


def term_lot(alphabet, term):
    """The lot of a term, None if it is barred."""
    need_alphabet(alphabet)
    look_at_term(alphabet, term)
    return TermLots(alphabet).lot_at(term)


def gain(letter):
    """The gain of a letter, None if its partings have unlike sizes."""
    _, downs, lot = letter
    sizes = [block_count(parting) for parting in lot]
    return max(sizes) - sum(downs) if max(sizes) == min(sizes) else None


def gains(alphabet):
    """The gain of each letter, None where there is none."""
    return tuple([gain(letter) for letter in need_alphabet(alphabet)])


def need_system(system):
    """The system; BadLetter, BadNumber or BadLot of any other value."""
    if not is_tuple_within(system, 3, 3):
        raise BadLetter(None)
    alphabet, width, goal = system
    need_alphabet(alphabet)
    if not is_integer_within(width, 1, MOST_WIDTH):
        raise BadNumber(width)
    need_some_lot(goal, width)
    return tuple(system)


def meets_goal(lot, goal):
    """Whether each parting of a lot meets each one of the goal in a tree."""
    for parting in lot:
        if not meets_all(parting, goal):
            return False
    return True


def term_stands(system, term):
    """Whether a term stands in a system."""
    alphabet, width, goal = need_system(system)
    look_at_term(alphabet, term)
    if alphabet[term[0]][0] != width:
        return False
    lot = TermLots(alphabet).lot_at(term)
    return lot is not None and meets_goal(lot, goal)
