"""Copies of a lot, one behind another."""

from fittingdoors.errors import BadNumber
from fittingdoors.glueing import doors_left, join_lots
from fittingdoors.kinds import is_integer_within
from fittingdoors.lots import need_some_lot
from fittingdoors.turning import turned_lot

MOST_COPIES = 1000000000000000000000000000000


def look_at_link(lot, doors):
    """Look at a lot with as many left doors as right ones."""
    if not is_integer_within(doors, 2, 6) or doors == 3 or doors == 5:
        raise BadNumber(doors)
    need_some_lot(lot, doors)


def copies(lot, doors, most):
    """The lots of 1, 2 and more copies, None where they are barred, and the place at which they begin anew.

    They end ahead of the first one that was there already, or with so many copies; then the place is None.
    """
    half = doors // 2
    ties = [(half + door, doors + door) for door in range(half)]
    left = doors_left(2 * doors, ties)
    rows = [tuple(lot)]
    places = {rows[0]: 0}
    while len(rows) < most:
        new = None if rows[-1] is None else join_lots(rows[-1], lot, ties, left)
        if new in places:
            return rows, places[new]
        places[new] = len(rows)
        rows.append(new)
    return rows, None


def at_place(rows, again, place):
    """What stands at a place of a row without an end, which begins anew at the place AGAIN."""
    if place < len(rows):
        return rows[place]
    return rows[again + (place - again) % (len(rows) - again)]


def chained(lot, doors, times):
    """The lot of so many copies, None if it is barred."""
    look_at_link(lot, doors)
    if not is_integer_within(times, 1, MOST_COPIES):
        raise BadNumber(times)
    rows, again = copies(lot, doors, times)
    return at_place(rows, again, times - 1)


def course(lot, doors):
    """From which number of copies on the lots come again, and after how many copies more."""
    look_at_link(lot, doors)
    rows, again = copies(lot, doors, MOST_COPIES)
    return again + 1, len(rows) - again


def closed_or_none(lot, doors):
    """The closed lot of a lot that perhaps is barred, None if nothing meets all of it."""
    if lot is None:
        return None
    other = turned_lot(lot, doors)
    return None if len(other) == 0 else turned_lot(other, doors)


def comes_again(rows, again, period):
    """Whether what stands in the round of a row is the same so many places later."""
    for place in range(again, len(rows)):
        if rows[place] != at_place(rows, again, place + period):
            return False
    return True


def closed_course(lot, doors):
    """The course of the closed lots."""
    look_at_link(lot, doors)
    rows, again = copies(lot, doors, MOST_COPIES)
    told = [closed_or_none(row, doors) for row in rows]
    period = 1
    while not comes_again(told, again, period):
        period += 1
    start = again
    while start > 0 and told[start - 1] == at_place(told, again, start - 1 + period):
        start -= 1
    return start + 1, period
