"""What a piece leaves, told with as little work for each setting as can be."""

from fittingdoors.clumps import Clumps
from fittingdoors.partings import numbered
from fittingdoors.pieces import knots_of_sort, line_numbers, lines_at


class Frame:
    """A piece whose lines are joined at its BOTH knots already; its settings are left."""

    def __init__(self, piece):
        numbers = line_numbers(piece)
        self.clumps = Clumps(len(piece[2]))
        self.has_ring = False
        for knot in knots_of_sort(piece, "both"):
            if not self.clumps.unite_all(lines_at(numbers, knot)):
                self.has_ring = True
        self.knots = [lines_at(numbers, knot) for knot in knots_of_sort(piece, "either")]
        self.ends = [numbers[(-1, door)] for door in range(piece[0])]

    def joined_by(self, setting):
        """The clumps of lines that a setting joins, None if there is a ring."""
        if self.has_ring:
            return None
        clumps = self.clumps.twin()
        for lines, kept in zip(self.knots, setting):
            if not clumps.unite(lines[2], lines[kept]):
                return None
        return clumps

    def left_by(self, setting):
        """The parting that a setting leaves, () without doors, None if it is barred."""
        clumps = self.joined_by(setting)
        if clumps is None:
            return None
        parting = numbered([clumps.head(line) for line in self.ends])
        # Without doors there has to be just one part.
        if clumps.many != max(parting, default=0) + 1:
            return None
        return parting


def settings_of(many):
    """All settings of so many EITHER knots, ascending."""
    rows = [()]
    for _ in range(many):
        rows = [row + (kept,) for row in rows for kept in (0, 1)]
    return rows
