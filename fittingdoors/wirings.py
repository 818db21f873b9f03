"""Wirings: doors that are tied two by two, and many copies of them behind one another."""

from fittingdoors.chains import MOST_COPIES
from fittingdoors.errors import BadDoor, BadNumber, BadPiece
from fittingdoors.kinds import is_integer_within, is_tuple_within
from fittingdoors.pieces import MOST_PIECE_DOORS, need_piece


def need_wiring(wiring):
    """The wiring; BadDoor of any other value."""
    if not is_tuple_within(wiring, 0, MOST_PIECE_DOORS):
        raise BadDoor(None)
    for door, other in enumerate(wiring):
        if not is_integer_within(other, 0, len(wiring) - 1) or other == door:
            raise BadDoor(door)
    for door, other in enumerate(wiring):
        if wiring[other] != door:
            raise BadDoor(door)
    return tuple(wiring)


def wiring_of(piece):
    """The wiring of a piece without knots."""
    doors, knots, lines = need_piece(piece)
    if len(knots) > 0:
        raise BadPiece("knots", 0)
    told = [0] * doors
    for (_, one), (_, two) in lines:
        told[one] = two
        told[two] = one
    return tuple(told)


def wiring_piece(wiring):
    """The plain piece of a wiring."""
    need_wiring(wiring)
    return len(wiring), (), tuple([((-1, door), (-1, other)) for door, other in enumerate(wiring) if door < other])


class Row:
    """Two wirings, the first of which is behind the other one: what is left of the first is tied to its right."""

    def __init__(self, first, second):
        self.wirings = (first, second)
        self.half = len(first) // 2
        # The ties that lines have passed, each by the number of its left door.
        self.passed = {}

    def is_inside(self, which, door):
        """Whether a door of one of the two is tied."""
        return (door >= self.half) == (which == 0)

    def crossed(self, which, door):
        """The place on the other side of a tie."""
        return (1, door - self.half) if which == 0 else (0, door + self.half)

    def far(self, which, door):
        """The open door where the line from an open door stops."""
        door = self.wirings[which][door]
        while self.is_inside(which, door):
            which, door = self.crossed(which, door)
            self.passed[door if which == 1 else door - self.half] = True
            door = self.wirings[which][door]
        return door

    def lines(self):
        """The wiring of the open doors."""
        ends = [(0 if door < self.half else 1, door) for door in range(2 * self.half)]
        return tuple([self.far(which, door) for which, door in ends])

    def loops_left(self):
        """How many lines close to loops, when the other lines are told."""
        told = 0
        for tie in range(self.half):
            if tie not in self.passed:
                told += 1
                which, door = 1, tie
                while tie not in self.passed or door != tie or which != 1:
                    self.passed[door if which == 1 else door - self.half] = True
                    which, door = self.crossed(which, self.wirings[which][door])
        return told


def put_behind(first, second):
    """The wiring of two wirings set behind one another, and how many loops come; each is such a pair."""
    wiring, loops = first
    other, other_loops = second
    row = Row(wiring, other)
    lines = row.lines()
    return lines, loops + other_loops + row.loops_left()


def straight(half):
    """The wiring that leads each left door to the right one beside it."""
    return tuple([*[half + door for door in range(half)], *list(range(half))])


def power_of(wiring, number):
    """So many copies of what is known to be a wiring behind one another."""
    told = (straight(len(wiring) // 2), 0)
    # Twice as many copies each time: what is set behind one another may be put together in any way.
    twice = (wiring, 0)
    while number > 0:
        if number & 1 == 1:
            told = put_behind(told, twice)
        number >>= 1
        if number > 0:
            twice = put_behind(twice, twice)
    return told


def wirings_joined(wiring, other):
    """The wiring of two set behind one another, and how many loops come."""
    need_wiring(wiring)
    need_wiring(other)
    if len(wiring) != len(other):
        raise BadNumber(len(other))
    return put_behind((wiring, 0), (other, 0))


def wiring_power(wiring, number):
    """The wiring of so many copies behind one another, and how many loops come."""
    need_wiring(wiring)
    if not is_integer_within(number, 0, MOST_COPIES):
        raise BadNumber(number)
    return power_of(wiring, number)


def loops_closed(wiring):
    """How many loops come if the right doors of a wiring are tied to its left ones."""
    half = len(wiring) // 2
    seen = {}
    told = 0
    for start in range(len(wiring)):
        if start not in seen:
            told += 1
            door = start
            while door not in seen:
                seen[door] = True
                seen[wiring[door]] = True
                door = (wiring[door] + half) if wiring[door] < half else (wiring[door] - half)
    return told


def ring_loops(wiring, number):
    """How many loops a ring of so many copies has."""
    need_wiring(wiring)
    if not is_integer_within(number, 1, MOST_COPIES):
        raise BadNumber(number)
    told, loops = power_of(wiring, number)
    return loops + loops_closed(told)
