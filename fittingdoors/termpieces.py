"""The pieces of terms, joined bundle by bundle in one go."""

from fittingdoors.errors import TooGreat
from fittingdoors.joining import loop_lines
from fittingdoors.pieces import MOST_KNOTS


class TermPiece:
    """Pieces of letters that are laid beside one another, and tied at their bundles.

    Knots come in the order in which they stand in the piece that is told: those of a letter, those
    of the term at its first bundle, those for loops that come there, and so on. Each door has a
    number of its own; the doors that stay open come first. ACROSS has for each end the one on the
    other side of its line.
    """

    def __init__(self, rows):
        self.rows = rows
        self.sorts = []
        self.door_count = 0
        self.across = {}

    def add_line(self, one, two):
        """Add a line between two ends."""
        self.across[one] = two
        self.across[two] = one

    def add_knots(self, sorts):
        """Add knots behind all others; the number of the first one."""
        first = len(self.sorts)
        # Knots never vanish: what is too great here is so when it has been joined.
        if first + len(sorts) > MOST_KNOTS:
            raise TooGreat(MOST_KNOTS)
        self.sorts.extend(sorts)
        return first

    def add_letter(self, piece):
        """Lay the piece of a letter beside the others; the number of its first door."""
        doors, sorts, lines = piece
        door = self.door_count
        self.door_count += doors
        first = self.add_knots(sorts)
        for (knot, place), (other, other_place) in lines:
            self.add_line((-1, place + door) if knot == -1 else (knot + first, place),
                          (-1, other_place + door) if other == -1 else (other + first, other_place))
        return door

    def tie_doors(self, door, other):
        """Tie two doors: their lines become one. Whether it closes to a loop."""
        one = self.across.pop((-1, door))
        two = self.across.pop((-1, other))
        if one == (-1, other):
            return True
        self.add_line(one, two)
        return False

    def add_term(self, term):
        """Lay the pieces of all letters of a term there, and tie them; the number of its first door."""
        up, downs, piece = self.rows[term[0]]
        first = self.add_letter(piece)
        door = first + up
        for width, inner in zip(downs, term[1:]):
            below = self.add_term(inner)
            loops = [step for step in range(width) if self.tie_doors(door + step, below + step)]
            for _ in loops:
                for one, two in loop_lines(self.add_knots(("both", "both"))):
                    self.add_line(one, two)
            door += width
        return first


def piece_of_term(rows, term):
    """The piece of what is known to be a term of what are known to be rows."""
    up, _, _ = rows[term[0]]
    whole = TermPiece(rows)
    whole.add_term(term)
    return up, tuple(whole.sorts), tuple(sorted([(one, two) for one, two in whole.across.items() if one < two]))
