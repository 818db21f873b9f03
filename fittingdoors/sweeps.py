"""All settings of a piece, gone through knot by knot.

What the settings of the first knots leave is kept only as far as later knots, and what is asked
for, can tell it apart: so there are far fewer rows to go on with than settings.
"""

from fittingdoors.frames import frame_of
from fittingdoors.partings import numbered


class Sweep:
    """A walk over the settings of a frame.

    A row tells for each clump that is still needed the part in which it is by now: a number from 0
    on for a part that must still come to a door, one below 0 for any other.
    """

    def __init__(self, frame, needs_doors, keeps_doors):
        self.knots = frame.knots
        self.keeps_doors = keeps_doors
        self.bad = None
        self.last_uses = {}
        for at, heads in enumerate(frame.knots):
            for head in heads:
                self.last_uses[head] = at
        if keeps_doors:
            for head in frame.ends:
                self.last_uses[head] = len(frame.knots)
        # Those that are needed longest stand first, so that rows are only cut off at their ends.
        heads = sorted(self.last_uses, key=self.last_use, reverse=True)
        self.places = {head: place for place, head in enumerate(heads)}
        self.first = self.first_row(frame, needs_doors)

    def last_use(self, head):
        """The number of the last knot that needs this clump."""
        return self.last_uses[head]

    def first_row(self, frame, needs_doors):
        """The row ahead of all knots, None if every setting is barred."""
        if frame.has_ring:
            return None
        if not needs_doors:
            return tuple([-1 - place for place in range(len(self.places))])
        if len(frame.ends) == 0:
            # Without a ring all settings leave as many parts; there has to be just one.
            if frame.clumps.many - len(frame.knots) != 1:
                return None
            return tuple([-1 - place for place in range(len(self.places))])
        with_door = {head: True for head in frame.ends}
        for head in frame.all_heads():
            if head not in self.places and head not in with_door:
                return None
        return tuple([-1 - place if head in with_door else place for head, place in self.places.items()])

    def note_bad(self, prefix):
        """Note the least setting that begins so; all that begin so are barred."""
        setting = (*prefix, *[0] * (len(self.knots) - len(prefix)))
        if self.bad is None or setting < self.bad:
            self.bad = setting

    def run(self):
        """The rows behind all knots, each with its least setting and how many settings it has."""
        if self.first is None:
            self.note_bad(())
            return {}
        rows = {self.first: ((), 1)}
        for at, heads in enumerate(self.knots):
            left, right, low = [self.places[head] for head in heads]
            needed = len([head for head in self.places if self.last_uses[head] > at])
            rows = self.further(rows, (low, left, right), needed)
        return rows

    def further(self, rows, places, needed):
        """The rows behind one more knot, by their least settings ascending, without barred ones."""
        low, left, right = places
        told = {}
        for row, (prefix, count) in rows.items():
            # Where only the least barred setting is asked for, none behind it matters.
            if self.bad is not None and not self.keeps_doors and prefix > self.bad:
                break
            for kept, place in ((0, left), (1, right)):
                new = united(row, low, place, needed)
                if new is None:
                    self.note_bad((*prefix, kept))
                elif new in told:
                    least, so_far = told[new]
                    told[new] = (least, so_far + count)
                else:
                    told[new] = ((*prefix, kept), count)
        return told


def merged(row, place, other):
    """The row with the parts at two places made one; None if they are one already."""
    stays = row[place]
    goes = row[other]
    if stays == goes:
        return None
    if stays >= 0:
        stays, goes = goes, stays
    return [stays if part == goes else part for part in row]


def trimmed(row, needed):
    """The row of the clumps that are needed further, numbered anew; None if a part comes to no door any more."""
    numbers = {}
    told = []
    for part in row[:needed]:
        number = numbers.get(part)
        if number is None:
            number = len(numbers) if part >= 0 else -1 - len(numbers)
            numbers[part] = number
        told.append(number)
    for part in row[needed:]:
        if part >= 0 and part not in numbers:
            return None
    return tuple(told)


def united(row, place, other, needed):
    """The row behind one more knot, which makes the parts at two places one; None if it is barred."""
    parts = merged(row, place, other)
    return None if parts is None else trimmed(parts, needed)


def least_barred(piece):
    """The least barred setting, or None."""
    sweep = Sweep(frame_of(piece), True, False)
    sweep.run()
    return sweep.bad


class Leaving:
    """What the settings of a piece with doors leave: the least barred setting or None, and for each
    parting the least setting that leaves it and how many do."""

    def __init__(self, piece):
        frame = frame_of(piece)
        sweep = Sweep(frame, True, True)
        rows = sweep.run()
        self.bad = sweep.bad
        self.least = {}
        self.counts = {}
        for row, (setting, count) in rows.items():
            parting = numbered([row[sweep.places[head]] for head in frame.ends])
            self.least[parting] = setting
            self.counts[parting] = count


def rings_with(frame, blocks):
    """Whether some setting leaves a ring if the doors of each of these blocks are joined."""
    sweep = Sweep(frame.with_doors_joined(blocks), False, False)
    sweep.run()
    return sweep.bad is not None
