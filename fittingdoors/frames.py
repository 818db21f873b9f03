"""What a piece leaves once its lines are joined at its BOTH knots."""

from fittingdoors.clumps import Clumps
from fittingdoors.partings import numbered
from fittingdoors.pieces import knots_of_sort, line_numbers, lines_at


class Frame:
    """A piece whose lines are joined at its BOTH knots already; its settings are left.

    The doors of each of some blocks may be joined, too. Each clump of lines is told by one of them,
    its head.
    """

    def __init__(self, piece, blocks=()):
        numbers = line_numbers(piece)
        self.clumps = Clumps(len(piece[2]))
        self.has_ring = False
        for knot in knots_of_sort(piece, "both"):
            if not self.clumps.unite_all(lines_at(numbers, knot)):
                self.has_ring = True
        for doors in blocks:
            if not self.clumps.unite_all([numbers[(-1, door)] for door in doors]):
                self.has_ring = True
        rows = [lines_at(numbers, knot) for knot in knots_of_sort(piece, "either")]
        self.knots = [[self.clumps.head(line) for line in lines] for lines in rows]
        self.ends = [self.clumps.head(numbers[(-1, door)]) for door in range(piece[0])]

    def all_heads(self):
        """The heads of all clumps."""
        return [line for line in range(len(self.clumps.heads)) if self.clumps.head(line) == line]

    def joined_by(self, setting):
        """The clumps of lines that a setting joins, None if there is a ring."""
        if self.has_ring:
            return None
        clumps = self.clumps.twin()
        for lines, kept in zip(self.knots, setting):
            if not clumps.unite(lines[2], lines[kept]):
                return None
        return clumps

    def left_by(self, setting):
        """The parting that a setting leaves, () without doors, None if it is barred."""
        clumps = self.joined_by(setting)
        if clumps is None:
            return None
        parting = numbered([clumps.head(line) for line in self.ends])
        # Without doors there has to be just one part.
        if clumps.many != max(parting, default=0) + 1:
            return None
        return parting
