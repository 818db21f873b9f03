"""Logs of benches."""

from fittingdoors.benches import MOST_DEEDS, Bench
from fittingdoors.errors import BadNumber, BadText, TooGreat
from fittingdoors.parsing import need_text
from fittingdoors.pieces import need_piece
from fittingdoors.texts import lines_of_piece
from fittingdoors.wholelines import INDENT, log_read

MOST_CHARACTERS = 20000


def tag_item(tag):
    """The item for a tag."""
    number, door = tag
    return str(number) + "." + str(door)


def log_text(bench):
    """The log of a bench."""
    lines = ["next " + str(bench.next_number())]
    for word, number, *rest in bench.deeds():
        if word == "put":
            lines.append("put " + str(number))
            lines.extend([INDENT + line for line in lines_of_piece(rest[0])])
        else:
            lines.append(" ".join(["tie", str(number), *[tag_item(tag) for tag in rest]]))
    text = "\n".join(lines)
    if len(text) > MOST_CHARACTERS:
        raise TooGreat(MOST_CHARACTERS)
    return text


def bench_of(following, deeds):
    """The bench with these deeds and this number of the next one."""
    if following > MOST_DEEDS + 1:
        raise BadNumber(following)
    bench = Bench()
    last = 0
    for word, number, *rest in deeds:
        if word == "put":
            need_piece(rest[0])
        if number <= last or number >= following:
            raise BadNumber(number)
        last = number
        if word == "put":
            bench.need_few_knots(rest[0])
            bench.note_piece(number, rest[0])
        else:
            tag, other = rest
            if not bench.is_open_door(tag) or not bench.is_open_door(other) or tag == other:
                raise BadNumber(number)
            bench.note_tie(number, tag, other)
    bench.following = following
    return bench


def read_log(text):
    """The bench with this log."""
    need_text(text)
    told, wrong = log_read(text.split("\n"))
    if wrong is not None:
        raise BadText(wrong, 0)
    following, deeds = told
    return bench_of(following, deeds)
