"""Settings of a piece: what they leave, and why they are barred."""

from fittingdoors.clumps import Clumps
from fittingdoors.errors import BadSetting
from fittingdoors.frames import frame_of
from fittingdoors.kinds import is_integer_within, is_tuple_within
from fittingdoors.pieces import is_end, knots_of_sort, line_numbers, need_piece


def either_knots(piece):
    """The numbers of the EITHER knots, ascending."""
    return knots_of_sort(need_piece(piece), "either")


def look_at_setting(piece, setting):
    """BadSetting unless this is a setting of what is known to be a piece."""
    many = len(knots_of_sort(piece, "either"))
    if not is_tuple_within(setting, many, many):
        raise BadSetting()
    for kept in setting:
        if not is_integer_within(kept, 0, 1):
            raise BadSetting()


def need_setting(piece, setting):
    """The setting; BadSetting of any other value."""
    need_piece(piece)
    look_at_setting(piece, setting)
    return tuple(setting)


def left_by(piece, setting):
    """The parting that a setting leaves, () without doors, None if it is barred."""
    need_setting(piece, setting)
    return frame_of(piece).left_by(setting)


def joined_places(piece, setting):
    """For each knot the places that the setting joins there."""
    rows = []
    at = 0
    for knot, sort in enumerate(piece[1]):
        if sort == "both":
            rows.append(((knot, 0), (knot, 1), (knot, 2)))
        else:
            rows.append(((knot, setting[at]), (knot, 2)))
            at += 1
    return rows


def pairs_of(places):
    """All pairs of these places, each in its order."""
    return [(one, two) for at, one in enumerate(places) for two in places[at + 1:]]


def passes_between(rows, numbers, start, goal):
    """The passes that lead from the line START to the line GOAL through the knots of these rows.

    The rows leave no ring, and both lines are in one part.
    """
    pairs = [pair for row in rows for pair in [*pairs_of(row), *pairs_of(row[::-1])]]
    last = {start: None}
    queue = [start]
    at = 0
    while goal not in last:
        line = queue[at]
        for one, two in pairs:
            if numbers[one] == line and numbers[two] not in last:
                last[numbers[two]] = (one, two)
                queue.append(numbers[two])
        at += 1
    passes = []
    line = goal
    while line != start:
        passes.append(last[line])
        line = numbers[last[line][0]]
    return passes[::-1]


def ring_passes(rows, numbers):
    """The passes of a ring that comes by the first knot that closes one, None if there is none."""
    clumps = Clumps(len(numbers))
    for knot, row in enumerate(rows):
        for one, two in pairs_of(row):
            if clumps.head(numbers[one]) == clumps.head(numbers[two]):
                rest = passes_between(rows[:knot], numbers, numbers[two], numbers[one])
                return tuple([(one, two), *rest])
        clumps.unite_all([numbers[place] for place in row])
    return None


def parts_of(rows, numbers, many):
    """The parts that lines hang together in, each as the ascending tuple of its lines."""
    clumps = Clumps(many)
    for row in rows:
        for one, two in pairs_of(row):
            clumps.unite(numbers[one], numbers[two])
    parts = {}
    for line in range(many):
        parts.setdefault(clumps.head(line), []).append(line)
    return [tuple(part) for part in parts.values()]


def barred_parts(piece, rows, numbers):
    """The parts of lines each of which is a reason by itself; () of the piece without any line."""
    many = len(piece[2])
    if many == 0:
        return [()]
    seen = {numbers[(-1, door)]: True for door in range(piece[0])}
    parts = parts_of(rows, numbers, many)
    return [part for part in parts if len(part) < many and not any([line in seen for line in part])]


def why_barred(piece, setting):
    """A reason why a setting is barred, or None."""
    need_setting(piece, setting)
    numbers = line_numbers(piece)
    rows = joined_places(piece, setting)
    passes = ring_passes(rows, numbers)
    if passes is not None:
        return "ring", passes
    for part in barred_parts(piece, rows, numbers):
        return "part", part
    return None


def is_pass(value, knots, rows):
    """Whether a value is a pair of two unlike places that the setting joins at one knot."""
    if not is_tuple_within(value, 2, 2):
        return False
    one, two = value
    if not is_end(one, 0, knots) or not is_end(two, 0, knots) or one == two:
        return False
    return one[0] == two[0] and one in rows[one[0]] and two in rows[two[0]]


def is_closed_round(passes, rows, numbers):
    """Whether a value is a tuple of passes that go round a ring."""
    if not isinstance(passes, tuple) or len(passes) == 0:
        return False
    for value in passes:
        if not is_pass(value, len(rows), rows):
            return False
    firsts = [numbers[one] for one, _ in passes]
    seconds = [numbers[two] for _, two in passes]
    knots = [one[0] for one, _ in passes]
    if len(set(knots)) != len(passes) or len(set(firsts)) != len(passes):
        return False
    return seconds == [*firsts[1:], firsts[0]]


def is_reason(piece, setting, reason):
    """Whether a value is a reason why the setting is barred."""
    need_setting(piece, setting)
    if not is_tuple_within(reason, 2, 2) or not isinstance(reason[0], str):
        return False
    word, told = reason
    numbers = line_numbers(piece)
    rows = joined_places(piece, setting)
    if word == "ring":
        return is_closed_round(told, rows, numbers)
    if word != "part" or not isinstance(told, tuple):
        return False
    for line in told:
        if not is_integer_within(line, 0, len(piece[2]) - 1):
            return False
    return tuple(told) in barred_parts(piece, rows, numbers)
