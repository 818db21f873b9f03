"""Reading of texts, character by character.

What can't be read is refused at the first character with which no text goes on: all that is read
ahead of it can always be brought to an end.
"""

from fittingdoors.errors import BadText
from fittingdoors.lots import MOST_LOT_DOORS
from fittingdoors.partings import MOST_DOORS
from fittingdoors.pieces import MOST_KNOTS, MOST_LINES, MOST_PIECE_DOORS

DIGITS = "0123456789"
MOST_OF_TWO_DIGITS = 99
MOST_OF_THREE_DIGITS = 999
# There are so many partings of six doors.
MOST_LOT_LINES = 203
MOST_BRACKETS = 39


class Reader:
    """A text, and the place up to which it has been read."""

    def __init__(self, text):
        self.text = text
        self.at = 0

    def is_done(self):
        """Whether the whole text has been read."""
        return self.at == len(self.text)

    def refuse(self):
        """Refuse the text at the place where it is read."""
        ahead = self.text[:self.at]
        raise BadText(ahead.count("\n"), len(ahead) - 1 - ahead.rfind("\n"))

    def sees(self, signs):
        """Whether the next character is one of these."""
        return self.at < len(self.text) and self.text[self.at] in signs

    def take_sign(self, signs):
        """Read one of these characters."""
        if not self.sees(signs):
            self.refuse()
        self.at += 1
        return self.text[self.at - 1]

    def take_word(self, word):
        """Read these characters."""
        for sign in word:
            self.take_sign(sign)

    def take_number(self, least, most):
        """Read an integer without leading zeros; LEAST is 0 or 1."""
        told = int(self.take_sign(DIGITS[least:]))
        if told > most:
            self.at -= 1
            self.refuse()
        while told > 0 and self.sees(DIGITS) and 10 * told + int(self.text[self.at]) <= most:
            told = 10 * told + int(self.take_sign(DIGITS))
        return told

    def take_end(self):
        """Look whether the text ends here."""
        if not self.is_done():
            self.refuse()


def read_parting(text):
    """The blocks that the text of a parting tells."""
    reader = Reader(text)
    told = [reader.take_number(0, MOST_OF_TWO_DIGITS)]
    while reader.sees(" ") and len(told) < MOST_DOORS:
        reader.take_word(" ")
        told.append(reader.take_number(0, MOST_OF_TWO_DIGITS))
    reader.take_end()
    return tuple(told)


def read_lot(text):
    """The rows that the text of a lot tells, and its number of doors."""
    reader = Reader(text)
    number = reader.take_number(1, MOST_LOT_DOORS)
    told = []
    while reader.sees("\n") and len(told) < MOST_LOT_LINES:
        reader.take_word("\n")
        row = [int(reader.take_sign(DIGITS[:MOST_LOT_DOORS]))]
        while len(row) < number:
            reader.take_word(" ")
            row.append(int(reader.take_sign(DIGITS[:MOST_LOT_DOORS])))
        told.append(tuple(row))
    reader.take_end()
    return tuple(told), number


def take_sort(reader):
    """Read the word of a sort."""
    if reader.sees("b"):
        reader.take_word("both")
        return "both"
    reader.take_word("either")
    return "either"


def take_piece_end(reader):
    """Read an end of a piece."""
    if reader.sees("d"):
        reader.take_word("d")
        return -1, reader.take_number(0, MOST_OF_TWO_DIGITS)
    knot = reader.take_number(0, MOST_OF_THREE_DIGITS)
    return knot, "lrw".index(reader.take_sign("lrw"))


def read_piece(text):
    """The piece that a text tells."""
    reader = Reader(text)
    doors = reader.take_number(0, MOST_PIECE_DOORS)
    knots = []
    while reader.sees(" ") and len(knots) < MOST_KNOTS:
        reader.take_word(" ")
        knots.append(take_sort(reader))
    lines = []
    while reader.sees("\n") and len(lines) < MOST_LINES:
        reader.take_word("\n")
        one = take_piece_end(reader)
        reader.take_word(" ")
        lines.append((one, take_piece_end(reader)))
    reader.take_end()
    return doors, tuple(knots), tuple(lines)


def take_form(reader, brackets):
    """Read a form within so many brackets."""
    if brackets == MOST_BRACKETS or not reader.sees("("):
        return reader.take_number(0, MOST_OF_TWO_DIGITS)
    reader.take_word("(")
    left = take_form(reader, brackets + 1)
    reader.take_word(" ")
    word = "both" if reader.take_sign("*+") == "*" else "either"
    reader.take_word(" ")
    right = take_form(reader, brackets + 1)
    reader.take_word(")")
    return word, left, right


def read_form(text):
    """The form that a text tells."""
    reader = Reader(text)
    told = take_form(reader, 0)
    reader.take_end()
    return told
