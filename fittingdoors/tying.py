"""Which ties come for two lots: by which nothing is barred."""

from fittingdoors.clumps import Clumps
from fittingdoors.errors import BadNumber
from fittingdoors.glueing import blocks_of_both, doors_left, glue_all, moved_ties
from fittingdoors.joining import need_ties
from fittingdoors.kinds import is_integer_within
from fittingdoors.lots import need_lot
from fittingdoors.partings import numbered


def ties_come(lot, number, other, other_number, ties):
    """Whether the ties bar nothing."""
    need_lot(lot, number)
    need_lot(other, other_number)
    need_ties(ties, number, other_number)
    moved = moved_ties(ties, number)
    left = doors_left(number + other_number, moved)
    for parting in lot:
        if glue_all([blocks_of_both(parting, one) for one in other], moved, left) is None:
            return False
    return True


def view_of(parting, doors):
    """All that ties at these doors meet of a parting: its blocks there, and for each whether it has other doors."""
    blocks = [parting[door] for door in doors]
    told = numbered(blocks)
    has_more = [False] * (max(told, default=-1) + 1)
    for block, number in zip(blocks, told):
        has_more[number] = parting.count(block) > blocks.count(block)
    return told, tuple(has_more)


def views_come(view, other, are_all):
    """Whether ties at the doors of two views, one after the other, bar nothing; ARE_ALL: no door is left."""
    blocks, has_more = view
    other_blocks, other_more = other
    many = len(has_more)
    clumps = Clumps(many + len(other_more))
    for one, two in zip(blocks, other_blocks):
        if not clumps.unite(one, many + two):
            return False
    if are_all:
        return clumps.many == 1
    reached = [clumps.head(place) for place, more in enumerate([*has_more, *other_more]) if more]
    return len(set(reached)) == clumps.many


def all_come(views, others, are_all):
    """Whether ties bar nothing whichever of the views, and of the other views, there are."""
    for one in views:
        for two in others:
            if not views_come(one, two, are_all):
                return False
    return True


class Tying:
    """Two lots, with what has been found out about ties between them.

    The same views come up for many ties, so sets of views are numbered, and what is found out is
    kept by their numbers.
    """

    def __init__(self, lot, number, other, other_number):
        need_lot(lot, number)
        need_lot(other, other_number)
        self.sides = ((lot, number), (other, other_number))
        self.numbers = {}
        self.views = []
        self.by_doors = {}
        self.found = {}

    def views_at(self, side, doors):
        """The number of the set of views that the lot of one side has at these doors."""
        if (side, doors) not in self.by_doors:
            rows = tuple(sorted(set([view_of(parting, doors) for parting in self.sides[side][0]])))
            if rows not in self.numbers:
                self.numbers[rows] = len(self.views)
                self.views.append(rows)
            self.by_doors[(side, doors)] = self.numbers[rows]
        return self.by_doors[(side, doors)]

    def come(self, ties):
        """Whether the ties bar nothing."""
        ends = tuple([one for one, _ in ties])
        other_ends = tuple([two for _, two in ties])
        are_all = self.sides[0][1] == self.sides[1][1] == len(ties)
        key = (self.views_at(0, ends), self.views_at(1, other_ends), are_all)
        if key not in self.found:
            self.found[key] = all_come(self.views[key[0]], self.views[key[1]], are_all)
        return self.found[key]

    def longer(self, rows):
        """All ties that come and have one tie more than those of these rows, ascending.

        Of ties that come all ties among them come; so those of the rows, with one tie behind, are enough.
        """
        told = []
        for ties in rows:
            first = ties[-1][0] + 1 if len(ties) > 0 else 0
            used = [two for _, two in ties]
            for one in range(first, self.sides[0][1]):
                for two in range(self.sides[1][1]):
                    if two not in used and self.come((*ties, (one, two))):
                        told.append((*ties, (one, two)))
        return told

    def by_count(self):
        """For each number of ties, up to the greatest with which some come, all these, ascending."""
        told = [[()]]
        rows = self.longer([()])
        while len(rows) > 0:
            told.append(rows)
            rows = self.longer(rows)
        return told


def ties_counted(lot, number, other, other_number):
    """For each number of ties with which some come, from 0 on, how many come."""
    return tuple([len(rows) for rows in Tying(lot, number, other, other_number).by_count()])


def all_ties(lot, number, other, other_number, many):
    """All ties that come and have so many ties, ascending."""
    tying = Tying(lot, number, other, other_number)
    if not is_integer_within(many, 0, min(number, other_number)):
        raise BadNumber(many)
    rows = tying.by_count()
    return tuple(rows[many]) if many < len(rows) else ()


def most_ties(lot, number, other, other_number):
    """The greatest number of ties with which some come, and the least of these."""
    rows = Tying(lot, number, other, other_number).by_count()
    return len(rows) - 1, rows[-1][0]
