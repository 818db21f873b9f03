"""What a piece leaves once its lines are joined at its BOTH knots."""

from fittingdoors.clumps import Clumps
from fittingdoors.partings import numbered
from fittingdoors.pieces import knots_of_sort, line_numbers, lines_at


class Frame:
    """A piece whose lines are joined at its BOTH knots already; its settings are left.

    Each clump of lines is told by one of them, its head: KNOTS has the heads at each EITHER knot,
    ENDS those at the doors.
    """

    def __init__(self, clumps, has_ring, knots, ends):
        self.clumps = clumps
        self.has_ring = has_ring
        self.knots = [[clumps.head(line) for line in lines] for lines in knots]
        self.ends = [clumps.head(line) for line in ends]
        # The order in which the sweeps go through the knots, when one has been chosen.
        self.order = None

    def all_heads(self):
        """The heads of all clumps."""
        return [line for line in range(len(self.clumps.heads)) if self.clumps.head(line) == line]

    def with_doors_joined(self, blocks):
        """This frame when the doors of each of these blocks are joined; it is not changed itself."""
        clumps = self.clumps.twin()
        has_ring = self.has_ring
        for doors in blocks:
            if not clumps.unite_all([self.ends[door] for door in doors]):
                has_ring = True
        return Frame(clumps, has_ring, self.knots, self.ends)

    def joined_by(self, setting):
        """The clumps of lines that a setting joins, None if there is a ring."""
        if self.has_ring:
            return None
        clumps = self.clumps.twin()
        for lines, kept in zip(self.knots, setting):
            if not clumps.unite(lines[2], lines[kept]):
                return None
        return clumps

    def left_by(self, setting):
        """The parting that a setting leaves, () without doors, None if it is barred."""
        clumps = self.joined_by(setting)
        if clumps is None:
            return None
        parting = numbered([clumps.head(line) for line in self.ends])
        # Without doors there has to be just one part.
        if clumps.many != max(parting, default=0) + 1:
            return None
        return parting


def frame_of(piece):
    """The frame of a piece."""
    numbers = line_numbers(piece)
    clumps = Clumps(len(piece[2]))
    has_ring = False
    for knot in knots_of_sort(piece, "both"):
        if not clumps.unite_all(lines_at(numbers, knot)):
            has_ring = True
    knots = [lines_at(numbers, knot) for knot in knots_of_sort(piece, "either")]
    return Frame(clumps, has_ring, knots, [numbers[(-1, door)] for door in range(piece[0])])
