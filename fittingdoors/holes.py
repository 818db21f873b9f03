"""What fills a hole of a lot so that a goal is kept."""

from fittingdoors.errors import BadDoor, BadLot
from fittingdoors.glueing import blocks_of_both, doors_left, glue, moved_ties
from fittingdoors.kinds import is_integer_within, is_tuple_within
from fittingdoors.lots import need_lot
from fittingdoors.meeting import meets
from fittingdoors.partings import is_parting, partings_of_doors
from fittingdoors.turning import meets_all, turned_lot


def need_hole(hole, number):
    """Look at a tuple of unlike doors out of so many, at least one."""
    if not isinstance(hole, tuple) or len(hole) == 0:
        raise BadDoor(hole)
    seen = set()
    for door in hole:
        if not is_integer_within(door, 0, number - 1) or door in seen:
            raise BadDoor(door)
        seen.add(door)


def need_goal(goal, doors):
    """Look at a goal for so many doors, perhaps none."""
    if doors > 0:
        need_lot(goal, doors)
    elif not isinstance(goal, tuple) or len(goal) > 0:
        raise BadLot("goal")


class Hole:
    """A lot with a hole and a goal for the doors that are left."""

    def __init__(self, lot, number, hole, goal):
        need_lot(lot, number)
        need_hole(hole, number)
        need_goal(goal, number - len(hole))
        self.partings = lot
        self.many_doors = len(hole)
        self.ties = moved_ties([(door, place) for place, door in enumerate(hole)], number)
        self.left = doors_left(number + len(hole), self.ties)
        # What is glued reaches the goal exactly if it meets all of these in a tree.
        self.guards = turned_lot(goal, len(self.left)) if len(self.left) > 0 else ()

    def glued_with(self, parting, filler):
        """What a parting of the lot and one at the hole are glued to, None if they are barred."""
        return glue(blocks_of_both(parting, filler), self.ties, self.left)

    def is_filler(self, filler):
        """Whether a parting at the hole reaches the goal with each one of the lot."""
        for parting in self.partings:
            told = self.glued_with(parting, filler)
            if told is None or not meets_all(told, self.guards):
                return False
        return True

    def fillers(self):
        """All partings that fill the hole, ascending."""
        return tuple([filler for filler in partings_of_doors(self.many_doors) if self.is_filler(filler)])

    def shown(self, filler):
        """A pair that shows that a parting fills nothing, None if it fills the hole."""
        for parting in self.partings:
            told = self.glued_with(parting, filler)
            if told is None:
                return parting, None
            for guard in self.guards:
                if not meets(told, guard):
                    return parting, guard
        return None

    def is_shown_by(self, filler, pair):
        """Whether a value is a pair that shows that a parting fills nothing."""
        if not is_tuple_within(pair, 2, 2):
            return False
        parting, guard = pair
        if not is_parting(parting) or parting not in self.partings:
            return False
        told = self.glued_with(parting, filler)
        if told is None or guard is None:
            return told is None and guard is None
        return is_parting(guard) and guard in self.guards and not meets(told, guard)


def fillers(lot, number, hole, goal):
    """All partings that fill the hole, ascending."""
    return Hole(lot, number, hole, goal).fillers()


def fills_hole(lot, number, hole, goal, other):
    """Whether all of another lot fills the hole."""
    told = Hole(lot, number, hole, goal)
    need_lot(other, len(hole))
    for filler in other:
        if not told.is_filler(filler):
            return False
    return True


def no_filler_paper(lot, number, hole, goal):
    """A paper that nothing fills the hole, None if something does."""
    told = Hole(lot, number, hole, goal)
    pairs = [told.shown(filler) for filler in partings_of_doors(len(hole))]
    return None if None in pairs else tuple(pairs)


def need_no_filler_paper(lot, number, hole, goal, paper):
    """The paper; BadLot("paper") of what is no right one."""
    told = Hole(lot, number, hole, goal)
    rows = partings_of_doors(len(hole))
    if not is_tuple_within(paper, len(rows), len(rows)):
        raise BadLot("paper")
    for filler, pair in zip(rows, paper):
        if not told.is_shown_by(filler, pair):
            raise BadLot("paper")
    return tuple(paper)
