"""What vanishes where the low ends of unlike knots are on one line."""

from fittingdoors.errors import BadNumber, TooGreat
from fittingdoors.joining import loop_lines
from fittingdoors.kinds import is_integer
from fittingdoors.pieces import MOST_KNOTS, need_piece, plain_lines


def low_pairs(piece):
    """All pairs of knots whose low ends are on one line, the lesser number first, ascending."""
    told = []
    for one, two in piece[2]:
        if one[0] >= 0 and two[0] >= 0 and one[1] == 2 and two[1] == 2:
            told.append((min(one[0], two[0]), max(one[0], two[0])))
    return sorted(told)


def pairs_of(piece):
    """For each BOTH knot of a pair that can vanish its EITHER knot."""
    told = {}
    for one, two in low_pairs(piece):
        if piece[1][one] != piece[1][two]:
            both, either = (one, two) if piece[1][one] == "both" else (two, one)
            told[both] = either
    return told


def vanishing_pairs(piece):
    """The pairs of a BOTH knot and an EITHER knot that can vanish, ascending."""
    need_piece(piece)
    told = pairs_of(piece)
    return tuple([(both, told[both]) for both in sorted(told)])


def clashing_pairs(piece):
    """The pairs of knots that clash, ascending."""
    need_piece(piece)
    return tuple([(one, two) for one, two in low_pairs(piece) if piece[1][one] == piece[1][two]])


class Vanishing:
    """A piece from which pairs vanish."""

    def __init__(self, piece):
        self.piece = piece
        # For each end the one at the other side of its line.
        self.across = {}
        for one, two in piece[2]:
            self.across[one] = two
            self.across[two] = one
        self.loops = 0
        self.times = 0

    def vanish(self, knot, other):
        """Let a pair vanish; the pairs of knots, or of doors, that are low on a line that comes are told."""
        self.times += 1
        del self.across[(knot, 2)]
        del self.across[(other, 2)]
        told = []
        for place in (0, 1):
            one = self.across.pop((knot, place))
            two = self.across.pop((other, place))
            if one == (other, place):
                self.loops += 1
            else:
                self.across[one] = two
                self.across[two] = one
                told.append((one, two))
        # The line on the left ends may have become part of the one on the right ends.
        return [(one[0], two[0]) for one, two in told if self.across.get(one) == two and one[1] == 2 and two[1] == 2]

    def vanish_all(self, pairs):
        """Let pairs vanish until none is left; these can vanish to begin with."""
        sorts = self.piece[1]
        waiting = list(pairs.items())
        while len(waiting) > 0:
            knot, other = waiting.pop()
            for one, two in self.vanish(knot, other):
                if one >= 0 and two >= 0 and sorts[one] != sorts[two]:
                    waiting.append((one, two))

    def remainder(self):
        """What is left, plain; TooGreat if it is no piece any more."""
        doors, knots, _ = self.piece
        kept = [knot for knot in range(len(knots)) if (knot, 2) in self.across]
        if len(kept) + 2 * self.loops > MOST_KNOTS:
            raise TooGreat(MOST_KNOTS)
        names = {knot: number for number, knot in enumerate(kept)}
        # Doors keep their place.
        names[-1] = -1
        lines = [((names[one[0]], one[1]), (names[two[0]], two[1])) for one, two in self.across.items() if one < two]
        for number in range(self.loops):
            lines.extend(loop_lines(len(kept) + 2 * number))
        return doors, (*[knots[knot] for knot in kept], *["both"] * (2 * self.loops)), plain_lines(lines)


def vanished_pair(piece, knot):
    """What is left when the pair with this BOTH knot has vanished."""
    need_piece(piece)
    pairs = pairs_of(piece)
    if not is_integer(knot) or knot not in pairs:
        raise BadNumber(knot)
    vanishing = Vanishing(piece)
    vanishing.vanish(knot, pairs[knot])
    return vanishing.remainder()


def all_vanished(piece):
    """A piece from which pairs have vanished until none is left."""
    need_piece(piece)
    vanishing = Vanishing(piece)
    vanishing.vanish_all(pairs_of(piece))
    return vanishing


def vanished(piece):
    """What is left when pairs have vanished until none is left."""
    return all_vanished(piece).remainder()


def vanishings(piece):
    """How many pairs vanish until none is left."""
    vanishing = all_vanished(piece)
    vanishing.remainder()
    return vanishing.times
