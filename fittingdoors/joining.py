"""Pieces that are joined and tied at their doors."""

from fittingdoors.errors import BadTies, TooGreat
from fittingdoors.kinds import is_integer_within, is_tuple_within
from fittingdoors.melting import ends_in_one
from fittingdoors.pieces import MOST_KNOTS, MOST_PIECE_DOORS, need_piece, plain_lines


def need_ties(ties, doors, other_doors):
    """Look at ties of a door of the first, out of so many, and a door of the second."""
    if not isinstance(ties, tuple):
        raise BadTies(None)
    firsts = set()
    seconds = set()
    for place, tie in enumerate(ties):
        if not is_tuple_within(tie, 2, 2):
            raise BadTies(place)
        first, second = tie
        if not is_integer_within(first, 0, doors - 1) or first in firsts:
            raise BadTies(place)
        if not is_integer_within(second, 0, other_doors - 1) or second in seconds:
            raise BadTies(place)
        firsts.add(first)
        seconds.add(second)


def need_own_ties(ties, doors):
    """Look at ties of two unlike doors out of so many."""
    if not isinstance(ties, tuple):
        raise BadTies(None)
    seen = set()
    for place, tie in enumerate(ties):
        if not is_tuple_within(tie, 2, 2):
            raise BadTies(place)
        for door in tie:
            if not is_integer_within(door, 0, doors - 1) or door in seen:
                raise BadTies(place)
            seen.add(door)


def moved_end(end, doors, knots):
    """An end of a piece that comes behind so many doors and knots."""
    place, which = end
    return (-1, which + doors) if place == -1 else (place + knots, which)


def side_by_side(piece, other):
    """Both pieces as one, all that is of the second behind all that is of the first.

    It may have more doors and knots than a piece.
    """
    doors, knots, lines = piece
    more_doors, more_knots, more_lines = other
    moved = [tuple([moved_end(end, doors, len(knots)) for end in line]) for line in more_lines]
    return doors + more_doors, (*knots, *more_knots), (*lines, *moved)


def ends_tied(ties):
    """For each tied end the end to which it is tied."""
    tied_to = {}
    for one, two in ties:
        tied_to[(-1, one)] = (-1, two)
        tied_to[(-1, two)] = (-1, one)
    return tied_to


def followed(end, across, tied_to):
    """The tied ends that the line from END passes, and the end where it stops.

    A loop stops where it would come to END again.
    """
    passed = []
    far = across[end]
    while far in tied_to and tied_to[far] != end:
        passed.extend([far, tied_to[far]])
        far = across[tied_to[far]]
    return passed, far


def tied_lines(lines, ties):
    """The lines behind the ties, and the number of loops to which lines close."""
    tied_to = ends_tied(ties)
    across = {}
    for one, two in lines:
        across[one] = two
        across[two] = one
    seen = set()
    told = []
    loops = 0
    ends_left = [end for end in across if end not in tied_to]
    # What the lines from ends without a tie have not passed is on loops.
    for end in [*ends_left, *list(tied_to)]:
        if end not in seen:
            passed, far = followed(end, across, tied_to)
            for other in [*passed, end, far]:
                seen.add(other)
            if end in tied_to:
                loops += 1
            else:
                told.append((end, far))
    return told, loops


def loop_lines(knot):
    """The lines at the two BOTH knots, from this one on, that stand for a loop."""
    low = ((knot, 2), (knot + 1, 2))
    return [((knot, 0), (knot, 1)), low, ((knot + 1, 0), (knot + 1, 1))]


def tied_up(whole, ties):
    """What comes when the doors of these ties vanish; TooGreat if it is no piece any more."""
    doors, knots, lines = whole
    told, loops = tied_lines(lines, ties)
    gone = ends_tied(ties)
    left = [door for door in range(doors) if (-1, door) not in gone]
    if len(left) > MOST_PIECE_DOORS:
        raise TooGreat(MOST_PIECE_DOORS)
    if len(knots) + 2 * loops > MOST_KNOTS:
        raise TooGreat(MOST_KNOTS)
    names = {(-1, door): (-1, number) for number, door in enumerate(left)}
    told = [tuple([names.get(end, end) for end in line]) for line in told]
    for number in range(loops):
        told.extend(loop_lines(len(knots) + 2 * number))
    return len(left), (*knots, *["both"] * (2 * loops)), plain_lines(told)


def joined(piece, other, ties):
    """What comes of joining two pieces by ties."""
    need_piece(piece)
    need_piece(other)
    need_ties(ties, piece[0], other[0])
    moved = [(one, two + piece[0]) for one, two in ties]
    return tied_up(side_by_side(piece, other), moved)


def tied(piece, ties):
    """What comes of tying doors of one piece."""
    need_piece(piece)
    need_own_ties(ties, piece[0])
    return tied_up(piece, ties)


def fit(piece, other):
    """Whether two pieces fit."""
    need_piece(piece)
    need_piece(other)
    doors = piece[0]
    if doors == 0 or doors != other[0]:
        return False
    if len(piece[1]) + len(other[1]) > MOST_KNOTS:
        raise TooGreat(MOST_KNOTS)
    _, knots, lines = side_by_side(piece, other)
    told, loops = tied_lines(lines, [(door, doors + door) for door in range(doors)])
    # A loop is a ring in every setting.
    return loops == 0 and ends_in_one((0, knots, tuple(told)))
