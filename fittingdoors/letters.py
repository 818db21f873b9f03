"""Letters, alphabets, and terms of letters."""

from fittingdoors.errors import BadLetter, BadTerm
from fittingdoors.kinds import is_integer_within, is_tuple_within
from fittingdoors.lots import MOST_LOT_DOORS, lot_fault
from fittingdoors.lotting import all_left, look_at_settings
from fittingdoors.pieces import is_piece
from fittingdoors.termpieces import piece_of_term

MOST_LETTERS = 6
MOST_WIDTH = 5
MOST_BUNDLES = 2
MOST_TERM_LETTERS = 200
MOST_TERM_DEPTH = 40


def begins_as_letter(value):
    """Whether a value is a triple whose first two things are those of a letter."""
    if not is_tuple_within(value, 3, 3):
        return False
    up, downs, _ = value
    if not is_integer_within(up, 1, MOST_WIDTH) or not is_tuple_within(downs, 0, MOST_BUNDLES):
        return False
    for width in downs:
        if not is_integer_within(width, 1, MOST_WIDTH):
            return False
    return up + sum(downs) <= MOST_LOT_DOORS


def is_letter(value):
    """Whether a value is a letter."""
    if not begins_as_letter(value):
        return False
    up, downs, lot = value
    return lot_fault(lot, up + sum(downs)) is None and len(lot) > 0


def is_row(value):
    """Whether a value is a letter with a piece in the place of its lot."""
    if not begins_as_letter(value):
        return False
    up, downs, piece = value
    return is_piece(piece) and piece[0] == up + sum(downs)


def need_alphabet(alphabet):
    """The alphabet; BadLetter of any other value."""
    if not is_tuple_within(alphabet, 1, MOST_LETTERS):
        raise BadLetter(None)
    for number, letter in enumerate(alphabet):
        if not is_letter(letter):
            raise BadLetter(number)
    return tuple(alphabet)


def look_at_rows(rows):
    """Look at letters with pieces in the place of their lots."""
    if not is_tuple_within(rows, 1, MOST_LETTERS):
        raise BadLetter(None)
    for number, row in enumerate(rows):
        if not is_row(row):
            raise BadLetter(number)


def begins_as_term(value, letters, width):
    """Whether a value has the number of a letter and as many things behind it as this has bundles.

    The letter must have this width as its UP, if it is not None.
    """
    if not isinstance(value, tuple) or len(value) == 0 or not is_integer_within(value[0], 0, len(letters) - 1):
        return False
    up, downs, _ = letters[value[0]]
    return len(value) == 1 + len(downs) and (width is None or up == width)


def look_at_term(letters, term):
    """BadTerm unless this is a term of these letters that is not too great."""
    many = 0
    waiting = [((), None, term)]
    while len(waiting) > 0:
        path, width, value = waiting.pop()
        if len(path) == MOST_TERM_DEPTH or not begins_as_term(value, letters, width):
            raise BadTerm(path)
        many += 1
        downs = letters[value[0]][1]
        for bundle in reversed(range(len(downs))):
            waiting.append(((*path, bundle), downs[bundle], value[bundle + 1]))
    if many > MOST_TERM_LETTERS:
        raise BadTerm(None)


def need_term(alphabet, term):
    """The term; BadTerm of any other value."""
    need_alphabet(alphabet)
    look_at_term(alphabet, term)
    return tuple(term)


def alphabet_of(rows):
    """The alphabet with the lots of these pieces."""
    look_at_rows(rows)
    told = []
    for up, downs, piece in rows:
        look_at_settings(piece)
        told.append((up, tuple(downs), all_left(piece)))
    return tuple(told)


def term_piece(rows, term):
    """The piece of a term of letters that have pieces in the place of their lots."""
    look_at_rows(rows)
    look_at_term(rows, term)
    return piece_of_term(rows, term)
