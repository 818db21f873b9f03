"""All settings of a piece, gone through knot by knot.

What the settings of some knots leave is kept only as far as the other knots, and what is asked
for, can tell it apart: so there are far fewer rows to go on with than settings.
"""

from fittingdoors.frames import frame_of
from fittingdoors.partings import numbered


def times_of(row):
    """For each spot of a row how often it stands there, as pairs."""
    told = {}
    for spot in row:
        told[spot] = told.get(spot, 0) + 1
    return list(told.items())


def growth(times, uses, begun):
    """How many more spots are begun, and needed further, behind a row with these spots."""
    told = 0
    for spot, many in times:
        if uses[spot] == many:
            if spot in begun:
                told -= 1
        elif spot not in begun:
            told += 1
    return told


def short_order(rows):
    """The numbers of these rows of spots in an order in which few spots are begun and needed further."""
    times = [times_of(row) for row in rows]
    uses = {}
    for row in times:
        for spot, many in row:
            uses[spot] = uses.get(spot, 0) + many
    told = []
    begun = {}
    left = list(range(len(rows)))
    while len(left) > 0:
        grown = [growth(times[one], uses, begun) for one in left]
        number = left.pop(grown.index(min(grown)))
        told.append(number)
        for spot, many in times[number]:
            begun[spot] = True
            uses[spot] -= many
    return told


def order_of(frame):
    """The order in which the knots of a frame are gone through, told but once."""
    if frame.order is None:
        frame.order = short_order(frame.knots)
    return frame.order


class Sweep:
    """A walk over the settings of a frame.

    A row tells for each clump that is still needed the part in which it is by now: a number from 0
    on for a part that must still come to a door, one below 0 for any other. A setting is told by
    its code: its knots as bits, that of the first knot being the greatest. STOPS tells whether it
    may end as soon as any barred setting is noted.
    """

    def __init__(self, frame, needs_doors, keeps_doors, stops):
        self.knots = frame.knots
        self.order = order_of(frame)
        self.keeps_doors = keeps_doors
        self.stops = stops
        self.bad = None
        self.last_uses = {}
        for at, knot in enumerate(self.order):
            for head in frame.knots[knot]:
                self.last_uses[head] = at
        if keeps_doors:
            for head in frame.ends:
                self.last_uses[head] = len(frame.knots)
        # Those that are needed longest stand first, so that rows are only cut off at their ends.
        heads = sorted(self.last_uses, key=self.last_use, reverse=True)
        self.places = {head: place for place, head in enumerate(heads)}
        self.first = self.first_row(frame, needs_doors)

    def last_use(self, head):
        """The number of the last knot that needs this clump."""
        return self.last_uses[head]

    def first_row(self, frame, needs_doors):
        """The row ahead of all knots, None if every setting is barred."""
        if frame.has_ring:
            return None
        if not needs_doors:
            return tuple([-1 - place for place in range(len(self.places))])
        if len(frame.ends) == 0:
            # Without a ring all settings leave as many parts; there has to be just one.
            if frame.clumps.many - len(frame.knots) != 1:
                return None
            return tuple([-1 - place for place in range(len(self.places))])
        with_door = {head: True for head in frame.ends}
        for head in frame.all_heads():
            if head not in self.places and head not in with_door:
                return None
        return tuple([-1 - place if head in with_door else place for head, place in self.places.items()])

    def setting_of(self, code):
        """The setting with this code; None of None."""
        many = len(self.knots)
        return None if code is None else tuple([(code >> (many - 1 - knot)) & 1 for knot in range(many)])

    def note_bad(self, code):
        """Note that the setting with this code is barred, as are others with more bits."""
        if self.bad is None or code < self.bad:
            self.bad = code

    def run(self):
        """The rows behind all knots, each with the least code of its settings and how many there are."""
        if self.first is None:
            self.note_bad(0)
            return {}
        rows = {self.first: (0, 1)}
        for at, knot in enumerate(self.order):
            left, right, low = [self.places[head] for head in self.knots[knot]]
            needed = len([head for head in self.places if self.last_uses[head] > at])
            bit = 1 << (len(self.knots) - 1 - knot)
            rows = self.further(rows, ((low, left, 0), (low, right, bit)), needed)
            if self.stops and self.bad is not None:
                return {}
        return rows

    def further(self, rows, choices, needed):
        """The rows behind one more knot, without barred ones."""
        told = {}
        for row, (least, count) in rows.items():
            # Where only the least barred setting is asked for, none behind it matters.
            if self.bad is None or self.keeps_doors or least < self.bad:
                for low, place, bit in choices:
                    new = united(row, low, place, needed)
                    if new is None:
                        self.note_bad(least | bit)
                    elif new in told:
                        other, so_far = told[new]
                        told[new] = (min(other, least | bit), so_far + count)
                    else:
                        told[new] = (least | bit, count)
        return told


def merged(row, place, other):
    """The row with the parts at two places made one; None if they are one already."""
    stays = row[place]
    goes = row[other]
    if stays == goes:
        return None
    if stays >= 0:
        stays, goes = goes, stays
    return [stays if part == goes else part for part in row]


def trimmed(row, needed):
    """The row of the clumps that are needed further, numbered anew; None if a part comes to no door any more."""
    numbers = {}
    told = []
    for part in row[:needed]:
        number = numbers.get(part)
        if number is None:
            number = len(numbers) if part >= 0 else -1 - len(numbers)
            numbers[part] = number
        told.append(number)
    for part in row[needed:]:
        if part >= 0 and part not in numbers:
            return None
    return tuple(told)


def united(row, place, other, needed):
    """The row behind one more knot, which makes the parts at two places one; None if it is barred."""
    parts = merged(row, place, other)
    return None if parts is None else trimmed(parts, needed)


def least_barred_of(frame):
    """The least barred setting of a frame, or None."""
    sweep = Sweep(frame, True, False, False)
    sweep.run()
    return sweep.setting_of(sweep.bad)


def least_barred(piece):
    """The least barred setting, or None."""
    return least_barred_of(frame_of(piece))


def parting_in(row, sweep, frame):
    """How a row that keeps the doors parts them."""
    return numbered([row[sweep.places[head]] for head in frame.ends])


def partings_left(frame, needs_doors):
    """All partings that the settings of a frame leave, ascending; None if a setting is barred.

    NEEDS_DOORS tells whether a part without a door bars a setting, as a ring does.
    """
    sweep = Sweep(frame, needs_doors, True, True)
    rows = sweep.run()
    if sweep.bad is not None:
        return None
    return tuple(sorted({parting_in(row, sweep, frame): True for row in rows}))


class Leaving:
    """What the settings of a piece with doors leave: the least barred setting or None, and for each
    parting the least setting that leaves it and how many do."""

    def __init__(self, piece):
        frame = frame_of(piece)
        sweep = Sweep(frame, True, True, False)
        rows = sweep.run()
        self.bad = sweep.setting_of(sweep.bad)
        self.least = {}
        self.counts = {}
        for row, (least, count) in rows.items():
            parting = parting_in(row, sweep, frame)
            self.least[parting] = sweep.setting_of(least)
            self.counts[parting] = count


def least_ringing(frame):
    """The least setting of a frame that leaves a ring, or None."""
    sweep = Sweep(frame, False, False, False)
    sweep.run()
    return sweep.setting_of(sweep.bad)


def rings_with(frame, blocks):
    """Whether some setting leaves a ring if the doors of each of these blocks are joined."""
    return least_ringing(frame.with_doors_joined(blocks)) is not None
