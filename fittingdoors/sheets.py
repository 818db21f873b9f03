"""Sheets: entries and verdicts on them."""

from fittingdoors.alike import goes_for, parted
from fittingdoors.errors import BadName, BadText, FitError
from fittingdoors.forms import doors_of, look_at_form, made_plain
from fittingdoors.inbetween import forms_between
from fittingdoors.joining import fit
from fittingdoors.lettering import is_name
from fittingdoors.logs import bench_of
from fittingdoors.loosening import is_looser
from fittingdoors.lots import need_lot
from fittingdoors.lotting import lot_of
from fittingdoors.meeting import meet_in_tree
from fittingdoors.melting import stands
from fittingdoors.parsing import need_text
from fittingdoors.partings import need_parting
from fittingdoors.pieces import need_piece, plain_piece
from fittingdoors.turning import turned
from fittingdoors.wholelines import body_below, lines_read, log_read

# For each verdict the sorts of the things that it names.
VERDICTS = {
    "meets": ("parting", "parting"),
    "turned": ("lot", "lot"),
    "stands": ("piece",),
    "fits": ("piece", "piece"),
    "alike": ("piece", "piece"),
    "for": ("piece", "piece"),
    "has": ("piece", "lot"),
    "looser": ("form", "form"),
    "between": ("lot", "form", "lot"),
    "whole": ("bench", "piece"),
    "finishes": ("bench",),
}


def entry_line(line):
    """The sort and the name that the first line of an entry has, None if it is no such line."""
    items = line.split(" ")
    if len(items) != 2 or items[0] not in ("parting", "lot", "piece", "form", "bench") or not is_name(items[1]):
        return None
    return items[0], items[1]


def verdict_line(line):
    """The word and the names of a verdict, None if the line is none."""
    word, *names = line.split(" ")
    if word not in VERDICTS or len(names) != len(VERDICTS[word]) or not all([is_name(name) for name in names]):
        return None
    return word, names


def entries_read(lines):
    """The entries at the beginning of these lines, the line behind them, and the first wrong line."""
    told = []
    at = 0
    while at < len(lines):
        entry = entry_line(lines[at])
        if entry is None:
            return told, at, None
        sort, name = entry
        body = body_below(lines, at)
        thing, wrong = log_read(body) if sort == "bench" else lines_read(sort, body)
        if wrong is not None:
            return told, at, at + 1 + wrong
        told.append((sort, name, thing))
        at += 1 + len(body)
    return told, at, None


def sheet_read(text):
    """The entries and the verdicts of a text."""
    lines = text.split("\n")
    entries, at, wrong = entries_read(lines)
    if wrong is not None:
        raise BadText(wrong, 0)
    if at == len(lines):
        raise BadText(at, 0)
    verdicts = [verdict_line(line) for line in lines[at:]]
    if None in verdicts:
        raise BadText(at + verdicts.index(None), 0)
    return entries, verdicts


def thing_of(sort, thing):
    """What an entry tells, when it has been looked at."""
    if sort == "parting":
        return need_parting(thing)
    if sort == "piece":
        return need_piece(thing)
    if sort == "form":
        look_at_form(thing)
        return thing
    one, two = thing
    return (need_lot(one, two), two) if sort == "lot" else bench_of(one, two)


def things_of(entries):
    """What these entries tell."""
    names = {}
    for _, name, _ in entries:
        if name in names:
            raise BadName(name)
        names[name] = True
    return [(sort, name, thing_of(sort, thing)) for sort, name, thing in entries]


def sheet_entries(text):
    """The sort, the name and the thing of each entry of a sheet."""
    need_text(text)
    entries, _ = sheet_read(text)
    return tuple(things_of(entries))


def is_between(lot_told, form, other_told):
    """Whether the plain form of a form is between two lots."""
    lot, number = lot_told
    other, other_number = other_told
    if number != other_number or number != len(doors_of(form)):
        return False
    return made_plain(form) in forms_between(lot, other, number)


def has_lot(piece, lot_told):
    """Whether a lot is that of a piece."""
    lot, number = lot_told
    return piece[0] == number and lot_of(piece) == lot


def is_turned(lot_told, other_told):
    """Whether the second lot is the first one, turned."""
    lot, number = lot_told
    other, other_number = other_told
    return number == other_number and turned(lot, number) == other


def tells(word, things):
    """Whether a verdict on these things is so; any error of the package may come."""
    if word == "meets":
        return meet_in_tree(*things)
    if word == "turned":
        return is_turned(*things)
    if word == "stands":
        return stands(*things)
    if word == "fits":
        return fit(*things)
    if word == "alike":
        return parted(*things) is None
    if word == "for":
        return goes_for(*things) is None
    if word == "has":
        return has_lot(*things)
    if word == "looser":
        return is_looser(*things)
    if word == "between":
        return is_between(*things)
    return things[0].whole() == plain_piece(things[1]) if word == "whole" else things[0].finishes()


def is_so(word, names, entries):
    """Whether a verdict is so; ENTRIES has for each name its sort and its thing."""
    things = []
    for name, wanted in zip(names, VERDICTS[word]):
        sort, thing = entries.get(name, (None, None))
        if sort != wanted:
            return False
        things.append(thing)
    try:
        return tells(word, things)
    except FitError:
        return False


def judged(text):
    """For each verdict of a sheet whether it is so."""
    need_text(text)
    entries, verdicts = sheet_read(text)
    told = {name: (sort, thing) for sort, name, thing in things_of(entries)}
    return tuple([is_so(word, names, told) for word, names in verdicts])
