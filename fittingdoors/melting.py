"""Melting: whether a piece stands in a tree, told without trying its settings."""

from fittingdoors.clumps import Clumps
from fittingdoors.errors import BadPiece
from fittingdoors.partings import doors_by_block, need_parting_of
from fittingdoors.pieces import knots_of_sort, line_numbers, lines_at, need_piece


class Melt:
    """Clumps of lines, and the EITHER knots that have not melted yet."""

    def __init__(self, clumps, knots):
        self.clumps = clumps
        self.knots = knots
        self.order = []
        self.has_ring = False

    def put_together(self, lines):
        """Make the clumps of these lines one, or note the ring that comes."""
        if not self.clumps.unite_all(lines):
            self.has_ring = True

    def next_knot(self):
        """The least EITHER knot that can melt, or None."""
        for knot, (left, right, _) in self.knots.items():
            if self.clumps.head(left) == self.clumps.head(right):
                return knot
        return None

    def run(self):
        """Melt knots as long as there are any that can and no ring comes."""
        knot = None if self.has_ring else self.next_knot()
        while knot is not None:
            lines = self.knots[knot]
            self.put_together(lines[1:])
            if self.has_ring:
                return
            self.order.append(knot)
            del self.knots[knot]
            knot = self.next_knot()

    def end(self):
        """The word for how it ended."""
        if self.has_ring:
            return "ring"
        if len(self.knots) > 0:
            return "stuck"
        return "one" if self.clumps.many == 1 else "parts"

    def with_one_kept(self, knot, kept):
        """What melts further if one of the EITHER knots keeps a line; this one is not changed."""
        knots = {other: self.knots[other] for other in self.knots if other != knot}
        melt = Melt(self.clumps.twin(), knots)
        melt.put_together([self.knots[knot][2], self.knots[knot][kept]])
        melt.run()
        return melt


def melted(piece, blocks):
    """The piece when it has melted, its doors in these blocks, each told by its doors."""
    numbers = line_numbers(piece)
    knots = {knot: lines_at(numbers, knot) for knot in knots_of_sort(piece, "either")}
    melt = Melt(Clumps(len(piece[2])), knots)
    for knot in knots_of_sort(piece, "both"):
        melt.put_together(lines_at(numbers, knot))
    for doors in blocks:
        melt.put_together([numbers[(-1, door)] for door in doors])
    melt.run()
    return melt


def ends_in_one(piece):
    """Whether melting of a piece without doors ends in one clump."""
    return melted(piece, []).end() == "one"


def melting(piece, parting):
    """The pair of the order in which EITHER knots melt and the word for the end."""
    need_piece(piece)
    blocks = []
    if piece[0] > 0 or not isinstance(parting, tuple) or len(parting) > 0:
        need_parting_of(parting, piece[0])
        blocks = doors_by_block(parting)
    melt = melted(piece, blocks)
    return tuple(melt.order), melt.end()


def fits_tree(piece, parting):
    """Whether the piece fits the tree piece of the parting."""
    need_piece(piece)
    need_parting_of(parting, piece[0])
    return melted(piece, doors_by_block(parting)).end() == "one"


def need_no_doors(piece):
    """Look at a piece that must have no doors."""
    need_piece(piece)
    if piece[0] > 0:
        raise BadPiece("doors", None)


def stands(piece):
    """Whether a piece without doors stands."""
    need_no_doors(piece)
    return ends_in_one(piece)


def barred_when_melted(piece, melt):
    """A setting of a piece that has melted so that is barred with its doors in those blocks, or None."""
    if melt.end() == "one":
        return None
    kept = {knot: 0 for knot in knots_of_sort(piece, "either")}
    # What has melted is joined in every setting, so only knots that are stuck have to be chosen:
    # if all settings with the left line kept stand, a barred one keeps the right line.
    while melt.end() == "stuck":
        knot = min(melt.knots)
        further = melt.with_one_kept(knot, 0)
        if further.end() == "one":
            kept[knot] = 1
            further = melt.with_one_kept(knot, 1)
        melt = further
    return tuple(list(kept.values()))


def barred_setting(piece):
    """A barred setting of a piece without doors, None if it stands."""
    need_no_doors(piece)
    return barred_when_melted(piece, melted(piece, []))
