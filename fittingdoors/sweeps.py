"""All settings of a piece, gone through knot by knot.

What the settings of some knots leave is kept only as far as the other knots, and what is asked
for, can tell it apart: so there are far fewer rows to go on with than settings.
"""

from fittingdoors.frames import frame_of
from fittingdoors.partings import numbered


def growth(row, uses, begun):
    """How many more spots are begun, and needed further, behind this row of spots."""
    told = 0
    for spot in sorted(set(row)):
        is_last = uses[spot] == row.count(spot)
        if is_last and spot in begun:
            told -= 1
        if not is_last and spot not in begun:
            told += 1
    return told


def short_order(rows):
    """The numbers of these rows of spots in an order in which few spots are begun and needed further."""
    uses = {}
    for row in rows:
        for spot in row:
            uses[spot] = uses.get(spot, 0) + 1
    told = []
    begun = {}
    left = list(range(len(rows)))
    while len(left) > 0:
        _, number = min([(growth(rows[one], uses, begun), one) for one in left])
        told.append(number)
        left.remove(number)
        for spot in rows[number]:
            begun[spot] = True
            uses[spot] -= 1
    return told


class Sweep:
    """A walk over the settings of a frame.

    A row tells for each clump that is still needed the part in which it is by now: a number from 0
    on for a part that must still come to a door, one below 0 for any other. A setting is told by
    its code: its knots as bits, that of the first knot being the greatest.
    """

    def __init__(self, frame, needs_doors, keeps_doors):
        self.knots = frame.knots
        self.order = short_order(frame.knots)
        self.keeps_doors = keeps_doors
        self.bad = None
        self.last_uses = {}
        for at, knot in enumerate(self.order):
            for head in frame.knots[knot]:
                self.last_uses[head] = at
        if keeps_doors:
            for head in frame.ends:
                self.last_uses[head] = len(frame.knots)
        # Those that are needed longest stand first, so that rows are only cut off at their ends.
        heads = sorted(self.last_uses, key=self.last_use, reverse=True)
        self.places = {head: place for place, head in enumerate(heads)}
        self.first = self.first_row(frame, needs_doors)

    def last_use(self, head):
        """The number of the last knot that needs this clump."""
        return self.last_uses[head]

    def first_row(self, frame, needs_doors):
        """The row ahead of all knots, None if every setting is barred."""
        if frame.has_ring:
            return None
        if not needs_doors:
            return tuple([-1 - place for place in range(len(self.places))])
        if len(frame.ends) == 0:
            # Without a ring all settings leave as many parts; there has to be just one.
            if frame.clumps.many - len(frame.knots) != 1:
                return None
            return tuple([-1 - place for place in range(len(self.places))])
        with_door = {head: True for head in frame.ends}
        for head in frame.all_heads():
            if head not in self.places and head not in with_door:
                return None
        return tuple([-1 - place if head in with_door else place for head, place in self.places.items()])

    def setting_of(self, code):
        """The setting with this code; None of None."""
        many = len(self.knots)
        return None if code is None else tuple([(code >> (many - 1 - knot)) & 1 for knot in range(many)])

    def note_bad(self, code):
        """Note that the setting with this code is barred, as are others with more bits."""
        if self.bad is None or code < self.bad:
            self.bad = code

    def run(self):
        """The rows behind all knots, each with the least code of its settings and how many there are."""
        if self.first is None:
            self.note_bad(0)
            return {}
        rows = {self.first: (0, 1)}
        for at, knot in enumerate(self.order):
            left, right, low = [self.places[head] for head in self.knots[knot]]
            needed = len([head for head in self.places if self.last_uses[head] > at])
            bit = 1 << (len(self.knots) - 1 - knot)
            rows = self.further(rows, ((low, left, 0), (low, right, bit)), needed)
        return rows

    def further(self, rows, choices, needed):
        """The rows behind one more knot, without barred ones."""
        told = {}
        for row, (least, count) in rows.items():
            # Where only the least barred setting is asked for, none behind it matters.
            if self.bad is None or self.keeps_doors or least < self.bad:
                for low, place, bit in choices:
                    new = united(row, low, place, needed)
                    if new is None:
                        self.note_bad(least | bit)
                    elif new in told:
                        other, so_far = told[new]
                        told[new] = (min(other, least | bit), so_far + count)
                    else:
                        told[new] = (least | bit, count)
        return told


def merged(row, place, other):
    """The row with the parts at two places made one; None if they are one already."""
    stays = row[place]
    goes = row[other]
    if stays == goes:
        return None
    if stays >= 0:
        stays, goes = goes, stays
    return [stays if part == goes else part for part in row]


def trimmed(row, needed):
    """The row of the clumps that are needed further, numbered anew; None if a part comes to no door any more."""
    numbers = {}
    told = []
    for part in row[:needed]:
        number = numbers.get(part)
        if number is None:
            number = len(numbers) if part >= 0 else -1 - len(numbers)
            numbers[part] = number
        told.append(number)
    for part in row[needed:]:
        if part >= 0 and part not in numbers:
            return None
    return tuple(told)


def united(row, place, other, needed):
    """The row behind one more knot, which makes the parts at two places one; None if it is barred."""
    parts = merged(row, place, other)
    return None if parts is None else trimmed(parts, needed)


def least_barred(piece):
    """The least barred setting, or None."""
    sweep = Sweep(frame_of(piece), True, False)
    sweep.run()
    return sweep.setting_of(sweep.bad)


class Leaving:
    """What the settings of a piece with doors leave: the least barred setting or None, and for each
    parting the least setting that leaves it and how many do."""

    def __init__(self, piece):
        frame = frame_of(piece)
        sweep = Sweep(frame, True, True)
        rows = sweep.run()
        self.bad = sweep.setting_of(sweep.bad)
        self.least = {}
        self.counts = {}
        for row, (least, count) in rows.items():
            parting = numbered([row[sweep.places[head]] for head in frame.ends])
            self.least[parting] = sweep.setting_of(least)
            self.counts[parting] = count


def rings_with(frame, blocks):
    """Whether some setting leaves a ring if the doors of each of these blocks are joined."""
    sweep = Sweep(frame.with_doors_joined(blocks), False, False)
    sweep.run()
    return sweep.bad is not None
