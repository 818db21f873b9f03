"""Reading of texts line by line, lines being whole.

What is read is told beside the number of the first line with which no text of its sort goes on:
None if there is no such line, the number behind the last line if the lines end too early.
"""

from fittingdoors.errors import BadText
from fittingdoors.reading import MOST_OF_THREE_DIGITS, MOST_OF_TWO_DIGITS, Reader
from fittingdoors.reading import read_form, read_lot, read_parting, read_piece

INDENT = "- "


def thing_read(sort, text):
    """What the text of a thing of this sort tells."""
    if sort == "parting":
        return read_parting(text)
    if sort == "lot":
        return read_lot(text)
    return read_piece(text) if sort == "piece" else read_form(text)


def lines_read(sort, lines):
    """What these lines tell of a thing of this sort, and the first wrong line."""
    try:
        return thing_read(sort, "\n".join(lines)), None
    except BadText as error:
        wrong = error.line
        is_between = wrong < len(lines) - 1 and error.column == len(lines[wrong])
    if is_between:
        # It ends behind this line, or this line ends too early.
        _, other = lines_read(sort, lines[:wrong + 1])
        return None, wrong + 1 if other is None else wrong
    return None, wrong


def body_below(lines, at):
    """The lines behind this one that are put in, without what stands ahead of each."""
    told = []
    for line in lines[at + 1:]:
        if not line.startswith(INDENT):
            return told
        told.append(line[len(INDENT):])
    return told


def numbered_line(line, word):
    """The number behind a word that a line of a log has, None if it is no such line."""
    reader = Reader(line)
    try:
        reader.take_word(word + " ")
        number = reader.take_number(1, MOST_OF_THREE_DIGITS)
        reader.take_end()
    except BadText:
        return None
    return number


def take_tag(reader):
    """Read a tag."""
    number = reader.take_number(1, MOST_OF_THREE_DIGITS)
    reader.take_word(".")
    return number, reader.take_number(0, MOST_OF_TWO_DIGITS)


def tie_line(line):
    """The number and the two tags that the line of a tie has, None if it is no such line."""
    reader = Reader(line)
    try:
        reader.take_word("tie ")
        number = reader.take_number(1, MOST_OF_THREE_DIGITS)
        reader.take_word(" ")
        tag = take_tag(reader)
        reader.take_word(" ")
        other = take_tag(reader)
        reader.take_end()
    except BadText:
        return None
    return number, tag, other


def log_read(lines):
    """What these lines tell of a bench, and the first wrong line.

    It is told as the number of the next deed and the deeds, as a bench tells them.
    """
    following = numbered_line(lines[0], "next") if len(lines) > 0 else None
    if following is None:
        return None, 0
    deeds = []
    at = 1
    while at < len(lines):
        number = numbered_line(lines[at], "put")
        if number is not None:
            body = body_below(lines, at)
            piece, wrong = lines_read("piece", body)
            if wrong is not None:
                return None, at + 1 + wrong
            deeds.append(("put", number, piece))
            at += 1 + len(body)
        else:
            tie = tie_line(lines[at])
            if tie is None:
                return None, at
            deeds.append(("tie", *tie))
            at += 1
    return (following, deeds), None
