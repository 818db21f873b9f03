"""Which forms are looser than others, and the steps that lead to them."""

from fittingdoors.errors import BadNumber, TooGreat
from fittingdoors.forms import doors_of, exchanged, is_leaf, look_at_form, made_plain, part_at, part_stepped
from fittingdoors.forms import piece_of_form, web_of, with_part
from fittingdoors.joining import side_by_side, tied_lines
from fittingdoors.melting import barred_when_melted, ends_in_one, melted
from fittingdoors.pieces import knots_of_sort
from fittingdoors.settings import left_by
from fittingdoors.steps import Stepping

MOST_LOOSENED_DOORS = 8


def look_at_two_forms(form, other):
    """Look at two forms that must have equally many doors."""
    look_at_form(form)
    look_at_form(other)
    if len(doors_of(form)) != len(doors_of(other)):
        raise BadNumber(len(doors_of(other)))


def closing_pieces(form, other):
    """The pieces of the dual of a form and of another one, and the two joined at all doors."""
    piece = piece_of_form(exchanged(form))
    closing = piece_of_form(other)
    _, knots, lines = side_by_side(piece, closing)
    # A door of a form is always on one line with a knot, so no line closes to a loop.
    told, _ = tied_lines(lines, [(door, piece[0] + door) for door in range(piece[0])])
    return piece, closing, (0, knots, tuple(told))


def loosens(form, other):
    """Whether the second of two forms is looser than the first one."""
    _, _, whole = closing_pieces(form, other)
    return ends_in_one(whole)


def is_looser(form, other):
    """Whether the second form is looser than the first one."""
    look_at_two_forms(form, other)
    return loosens(form, other)


def partings_apart(form, other):
    """A parting of the lot of the dual of a form and one of the lot of another form that do not meet in a tree.

    None if there are none.
    """
    piece, closing, whole = closing_pieces(form, other)
    setting = barred_when_melted(whole, melted(whole, []))
    if setting is None:
        return None
    many = len(knots_of_sort(piece, "either"))
    return left_by(piece, setting[:many]), left_by(closing, setting[many:])


def limbs_below(part, word):
    """The limbs of a part under knots with this word."""
    if is_leaf(part) or part[0] != word:
        return [part]
    return limbs_below(part[1], word) + limbs_below(part[2], word)


def put_in_row(word, limbs):
    """These limbs under knots with this word."""
    told = limbs[0]
    for limb in limbs[1:]:
        told = (word, told, limb)
    return told


def both_paths(form):
    """The paths of the parts that begin with BOTH and are not right below BOTH."""
    told = []
    waiting = [((), "either", form)]
    while len(waiting) > 0:
        path, above, part = waiting.pop()
        if not is_leaf(part):
            if part[0] == "both" and above == "either":
                told.append(path)
            waiting.append(((*path, 1), part[0], part[1]))
            waiting.append(((*path, 2), part[0], part[2]))
    return told


def forks_of(part):
    """All ways to part a limb that begins with EITHER into all but one of its limbs and this one."""
    branches = limbs_below(part, "either")
    if len(branches) == 1:
        return []
    return [("either", put_in_row("either", branches[:at] + branches[at + 1:]), branch)
            for at, branch in enumerate(branches)]


def passes_of(part):
    """All ways to bracket a part that begins with BOTH for a pass of one limb to all but one of an EITHER.

    Every pass can be put together of such passes. Each way is a triple: the part so bracketed, the
    path in it where the pass is done, and the pairs of doors whose knot it changes.
    """
    told = []
    limbs = limbs_below(part, "both")
    for place, wide in enumerate(limbs):
        for fork in forks_of(wide):
            for other, limb in enumerate(limbs):
                if other != place:
                    rest = [one for here, one in enumerate(limbs) if here not in (place, other)]
                    ready = ("both", limb, fork)
                    whole = ("both", put_in_row("both", rest), ready) if len(rest) > 0 else ready
                    pairs = [(one, two) for one in doors_of(limb) for two in doors_of(fork[2])]
                    told.append((whole, (2,) if len(rest) > 0 else (), pairs))
    return told


def knots_of_pairs(form):
    """For each pair of doors, either one first, whether their knot is BOTH."""
    bits = web_of(form)
    told = {}
    place = 0
    for two in range(len(doors_of(form))):
        for one in range(two):
            told[(one, two)] = bits[place] == 1
            told[(two, one)] = bits[place] == 1
            place += 1
    return told


def next_pass(form, target, knots):
    """A form that is the same as FORM up to brackets, and a path in it: a pass there leads on to TARGET.

    FORM is plain, TARGET looser and not the same; KNOTS are those of the pairs of doors of TARGET.
    """
    for path in both_paths(form):
        for part, inner, pairs in passes_of(part_at(form, path)):
            # What is EITHER stays so: a pair that is BOTH in the target must not change.
            if not any([knots[pair] for pair in pairs]):
                ready = with_part(form, path, part)
                spot = (*path, *inner)
                changed = with_part(ready, spot, part_stepped(part_at(ready, spot), "pass"))
                if loosens(changed, target):
                    return ready, spot
    return None


def steps_between(form, other):
    """Steps that lead a form into a looser one."""
    knots = knots_of_pairs(other)
    target = made_plain(other)
    stepping = Stepping(form)
    stepping.make_plain(())
    while stepping.form != target:
        ready, path = next_pass(stepping.form, target, knots)
        stepping.lead_to(ready)
        stepping.take(path, "pass")
        stepping.make_plain(())
    stepping.lead_to(other)
    return tuple(stepping.steps)


def loosened(form, other):
    """The steps that lead the first form into the second one, or two partings that tell it isn't looser."""
    look_at_two_forms(form, other)
    if len(doors_of(form)) > MOST_LOOSENED_DOORS:
        raise TooGreat(MOST_LOOSENED_DOORS)
    apart = partings_apart(form, other)
    return ("steps", steps_between(form, other)) if apart is None else ("apart", *apart)
