"""Lots of parts that are tied again at the lines where they were cut.

Each cut line and each open door is a spot. What is chosen for the parts so far is kept only as a
row of the spots that later parts need, as in the sweeps over settings.
"""

from fittingdoors.partings import block_count
from fittingdoors.sweeps import merged, short_order, trimmed


def row_behind(row, parting, places, needed):
    """The row behind one more part with the spots of its doors at these places; None if it is barred."""
    first = {}
    for block, place in zip(parting, places):
        if block in first:
            row = merged(row, first[block], place)
            if row is None:
                return None
        else:
            first[block] = place
    return trimmed(row, needed)


def rows_behind(rows, lot, places, needed):
    """All rows behind one more part with this lot, None if one of them is barred."""
    told = {}
    for row in rows:
        for parting in lot:
            new = row_behind(row, parting, places, needed)
            if new is None:
                return None
            told[new] = True
    return list(told)


def come_again(lots, spots, at_doors):
    """Whether nothing is barred, whatever is chosen of the lots; SPOTS has for each part those of its doors.

    AT_DOORS are the spots of open doors. Each part that hangs together must have one of them; if
    there are none, there must be just one such part.
    """
    ties = [spot for part in spots for spot in part if spot not in at_doors]
    if len(at_doors) == 0 and sum([block_count(lot[0]) for lot in lots]) - len(ties) // 2 != 1:
        return False
    order = short_order(spots)
    last = {spot: at for at, part in enumerate(order) for spot in spots[part]}
    # Those that are needed longest stand first, so that rows are only cut off at their ends.
    longest = [spot for _, spot in sorted([(-at, spot) for spot, at in last.items()])]
    places = {spot: place for place, spot in enumerate(longest)}
    with_door = [len(at_doors) == 0 or spot in at_doors for spot in longest]
    rows = [tuple([-1 - place if told else place for place, told in enumerate(with_door)])]
    for at, part in enumerate(order):
        needed = len([spot for spot in longest if last[spot] > at])
        rows = rows_behind(rows, lots[part], [places[spot] for spot in spots[part]], needed)
        if rows is None:
            return False
    return True
