"""Pieces that lie on a bench, and their doors that are tied, put and taken back live."""

from fittingdoors.errors import BadDoor, BadNumber, TooGreat
from fittingdoors.frames import frame_of
from fittingdoors.glueing import doors_left, glue_all, join_lots, moved_ties
from fittingdoors.joining import moved_end, tied_up
from fittingdoors.kinds import is_integer, is_tuple_within
from fittingdoors.lots import MOST_LOT_DOORS
from fittingdoors.lotting import look_at_settings
from fittingdoors.melting import ends_in_one
from fittingdoors.pieces import MOST_KNOTS, need_piece
from fittingdoors.sweeps import partings_left

MOST_DEEDS = 400


def is_tag(value):
    """Whether a value is a pair of integers."""
    return is_tuple_within(value, 2, 2) and is_integer(value[0]) and is_integer(value[1])


class Bench:
    """Pieces in force, and ties of their doors; each put and each tie has a number."""

    def __init__(self):
        self.following = 1
        # The pieces and the ties in force, by their numbers.
        self.pieces = {}
        self.ties = {}
        self.knot_count = 0
        # For each tied door the number of its tie.
        self.tied = {}

    def next_number(self):
        """The number of the next deed."""
        return self.following

    def put(self, piece):
        """Put a piece there; the number of this deed."""
        need_piece(piece)
        self.need_few_knots(piece)
        self.need_few_deeds()
        self.note_piece(self.following, piece)
        self.following += 1
        return self.following - 1

    def need_few_knots(self, piece):
        """Look whether a piece may be put there."""
        if self.knot_count + len(piece[1]) > MOST_KNOTS:
            raise TooGreat(MOST_KNOTS)

    def need_few_deeds(self):
        """Look whether there may be one more deed."""
        if self.following > MOST_DEEDS:
            raise TooGreat(MOST_DEEDS)

    def note_piece(self, number, piece):
        """Note a put."""
        self.pieces[number] = piece
        self.knot_count += len(piece[1])

    def has_door(self, value):
        """Whether a value is the tag of a door of a piece in force."""
        if not is_tag(value) or value[0] not in self.pieces:
            return False
        return 0 <= value[1] < self.pieces[value[0]][0]

    def is_open_door(self, value):
        """Whether a value is the tag of an open door."""
        return self.has_door(value) and value not in self.tied

    def tie(self, tag, other):
        """Tie two doors; the number of this deed."""
        if not self.is_open_door(tag):
            raise BadDoor(tag)
        if not self.is_open_door(other) or tag == other:
            raise BadDoor(other)
        self.need_few_deeds()
        self.note_tie(self.following, tag, other)
        self.following += 1
        return self.following - 1

    def note_tie(self, number, tag, other):
        """Note a tie."""
        self.ties[number] = (min(tag, other), max(tag, other))
        self.tied[tag] = number
        self.tied[other] = number

    def back(self, number):
        """Take a deed back."""
        if not is_integer(number) or (number not in self.pieces and number not in self.ties):
            raise BadNumber(number)
        if number in self.ties:
            for tag in self.ties.pop(number):
                del self.tied[tag]
            return
        for door in range(self.pieces[number][0]):
            if (number, door) in self.tied:
                raise BadDoor((number, door))
        self.knot_count -= len(self.pieces.pop(number)[1])

    def doors(self):
        """The tags of the open doors, ascending."""
        tags = [(number, door) for number in sorted(self.pieces) for door in range(self.pieces[number][0])]
        return tuple([tag for tag in tags if tag not in self.tied])

    def deeds(self):
        """The deeds in force by their numbers."""
        told = []
        for number in sorted([*list(self.pieces), *list(self.ties)]):
            if number in self.pieces:
                told.append(("put", number, self.pieces[number]))
            else:
                told.append(("tie", number, *self.ties[number]))
        return tuple(told)

    def mate(self, tag):
        """The tag that a door is tied to, None of an open one."""
        if not self.has_door(tag):
            raise BadDoor(tag)
        if tag not in self.tied:
            return None
        one, two = self.ties[self.tied[tag]]
        return two if one == tag else one

    def whole(self):
        """The piece that comes of the pieces in force and their ties."""
        firsts = {}
        doors = 0
        knots = []
        lines = []
        for number in sorted(self.pieces):
            more_doors, more_knots, more_lines = self.pieces[number]
            firsts[number] = doors
            lines.extend([tuple([moved_end(end, doors, len(knots)) for end in line]) for line in more_lines])
            doors += more_doors
            knots.extend(more_knots)
        ties = [tuple([firsts[number] + door for number, door in pair]) for pair in self.ties.values()]
        return tied_up((doors, tuple(knots), tuple(lines)), ties)

    def ties_up_to(self, number):
        """The ties of a piece with itself and with earlier ones."""
        return [pair for pair in self.ties.values() if pair[1][0] == number]

    def need_lots(self):
        """Look whether the lot of the whole can be told by those of the pieces."""
        for piece in self.pieces.values():
            look_at_settings(piece)
        many = 0
        for number in sorted(self.pieces):
            doors = self.pieces[number][0]
            many += doors - 2 * len(self.ties_up_to(number))
            if doors > MOST_LOT_DOORS or many > MOST_LOT_DOORS:
                raise TooGreat(MOST_LOT_DOORS)

    def own_lot(self, number):
        """The lot of a piece behind its own ties, and the tags of its other doors.

        None in the place of the lot if the piece isn't sound, or if its ties bar something or leave
        no door.
        """
        piece = self.pieces[number]
        ties = [(one[1], two[1]) for one, two in self.ties_up_to(number) if one[0] == number]
        left = doors_left(piece[0], ties)
        lot = partings_left(frame_of(piece), True) if len(left) > 0 else None
        if lot is not None:
            lot = glue_all(lot, ties, left)
        return lot, [(number, door) for door in left]

    def with_piece(self, told, number):
        """The lot of the pieces so far and one more, and the tags of their doors that are not tied yet."""
        lot, tags = told
        other, other_tags = self.own_lot(number)
        if len(tags) == 0 or other is None:
            return other, other_tags
        ties = [(tags.index(one), other_tags.index(two)) for one, two in self.ties_up_to(number) if one[0] != number]
        moved = moved_ties(ties, len(tags))
        left = doors_left(len(tags) + len(other_tags), moved)
        all_tags = tags + other_tags
        return join_lots(lot, other, moved, left), [all_tags[door] for door in left]

    def lot(self):
        """The lot of the whole; None if it has no open door or isn't sound."""
        self.need_lots()
        if len(self.doors()) == 0:
            return None
        told = (None, [])
        for number in sorted(self.pieces):
            # A piece without anything changes nothing.
            if len(self.pieces[number][2]) > 0:
                told = self.with_piece(told, number)
                lot, tags = told
                # What has no door left hangs together with no open door.
                if lot is None or len(tags) == 0:
                    return None
        return told[0]

    def finishes(self):
        """Whether the whole stands or, with open doors, some surrounding fits it."""
        if len(self.doors()) > 0:
            return self.lot() is not None
        return ends_in_one(self.whole())

    def ties_left(self):
        """All pairs of tags of open doors behind whose tie the bench would finish, ascending."""
        lot = self.lot()
        if lot is None:
            return ()
        tags = self.doors()
        told = []
        for one in range(len(tags)):
            for two in range(one + 1, len(tags)):
                if glue_all(lot, [(one, two)], doors_left(len(tags), [(one, two)])) is not None:
                    told.append((tags[one], tags[two]))
        return tuple(told)

    def twin(self):
        """A bench with the same deeds in force and the same next number; neither changes the other one."""
        other = Bench()
        other.following = self.following
        other.pieces = {number: self.pieces[number] for number in self.pieces}
        other.ties = {number: self.ties[number] for number in self.ties}
        other.knot_count = self.knot_count
        other.tied = {tag: self.tied[tag] for tag in self.tied}
        return other
