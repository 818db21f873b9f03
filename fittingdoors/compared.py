"""Systems and letters that are compared by what stands."""

from fittingdoors.errors import BadLetter
from fittingdoors.states import States
from fittingdoors.tables import Table, is_standing
from fittingdoors.terms import need_system
from fittingdoors.walking import Walk


def need_one_build(system, other):
    """Look at two systems that must be of one build."""
    alphabet, width, _ = need_system(system)
    other_alphabet, other_width, _ = need_system(other)
    if width != other_width or len(alphabet) != len(other_alphabet):
        raise BadLetter(None)
    for number, (letter, other_letter) in enumerate(zip(alphabet, other_alphabet)):
        if letter[:2] != other_letter[:2]:
            raise BadLetter(number)


class Pairs(Walk):
    """The states that terms have in two systems of one build, as pairs."""

    def __init__(self, system, other):
        Walk.__init__(self, system[0])
        self.sides = (States(system[0]), States(other[0]))
        self.run()

    def come_to(self, letter, inner):
        """The states of a term with this first letter and with terms of these pairs of states."""
        pairs = [self.told[one] for one in inner]
        first, second = self.sides
        return (first.steps[(letter, tuple([pair[0] for pair in pairs]))],
                second.steps[(letter, tuple([pair[1] for pair in pairs]))])


def parted_by(system, other):
    """The least term that stands in just one of two systems of one build, or None."""
    need_one_build(system, other)
    pairs = Pairs(system, other)
    first, second = pairs.sides
    _, width, goal = system
    _, _, other_goal = other
    for place, (one, two) in enumerate(pairs.told):
        if is_standing(first.told[one], width, goal) != is_standing(second.told[two], width, other_goal):
            return pairs.terms[place]
    return None


def letters_alike(system):
    """For each letter the first one that has the same UP and bundles and is alike in the system."""
    table = Table(need_system(system))
    # What comes of each letter, for all that may stand at its bundles, in one order.
    rows = [[letter[:2]] for letter in system[0]]
    for letter, inner, one in table.class_steps():
        rows[letter].append((inner, one))
    return tuple([rows.index(row) for row in rows])
