"""Forms: doors put together by BOTH and EITHER, each door once."""

from fittingdoors.errors import BadForm, BadName
from fittingdoors.kinds import is_integer_within, is_tuple_within
from fittingdoors.pieces import is_sort, plain_lines

MOST_LEAVES = 40
MOST_PATH = 40


def is_knot(value):
    """Whether a value is a triple that begins with the word of a sort."""
    return is_tuple_within(value, 3, 3) and is_sort(value[0])


def look_at_form(form):
    """BadForm unless this is a form."""
    seen = set()
    waiting = [((), form)]
    while len(waiting) > 0:
        path, part = waiting.pop()
        if len(path) == MOST_PATH:
            raise BadForm(path)
        if is_knot(part):
            waiting.append(((*path, 2), part[2]))
            waiting.append(((*path, 1), part[1]))
        elif is_integer_within(part, 0, MOST_LEAVES - 1) and part not in seen:
            seen.add(part)
        else:
            raise BadForm(path)
    if sorted(seen)[-1] != len(seen) - 1:
        raise BadForm(())


def is_leaf(form):
    """Whether what is known to be a form is a door."""
    return isinstance(form, int)


def doors_of(form):
    """The list of the doors of a form or of a part of one, from the left."""
    if is_leaf(form):
        return [form]
    return doors_of(form[1]) + doors_of(form[2])


def leaves(form):
    """The doors of a form from the left."""
    look_at_form(form)
    return tuple(doors_of(form))


def exchanged(form):
    """A form or a part of one with the words exchanged everywhere."""
    if is_leaf(form):
        return form
    word, left, right = form
    return "either" if word == "both" else "both", exchanged(left), exchanged(right)


def dual(form):
    """The dual of a form."""
    look_at_form(form)
    return exchanged(form)


def bracketed(word, limbs):
    """Pairs of a least door and a form, by their doors, bracketed to the left."""
    (_, told), *behind = sorted(limbs)
    for _, limb in behind:
        told = (word, told, limb)
    return told


def limbs_of(form, word):
    """The limbs of a part under knots with this word, each plain and behind its least door."""
    if is_leaf(form):
        return [(form, form)]
    if form[0] == word:
        return limbs_of(form[1], word) + limbs_of(form[2], word)
    limbs = limbs_of(form, form[0])
    least, _ = min(limbs)
    return [(least, bracketed(form[0], limbs))]


def made_plain(form):
    """The plain form of what is known to be a form."""
    ((_, told),) = limbs_of(form, "")
    return told


def plain(form):
    """The plain form of a form."""
    look_at_form(form)
    return made_plain(form)


def web_of(form):
    """The web of what is known to be a form."""
    told = {}
    waiting = [form]
    while len(waiting) > 0:
        part = waiting.pop()
        if not is_leaf(part):
            rows = [(one, two) for one in doors_of(part[1]) for two in doors_of(part[2])]
            for one, two in rows:
                told[(min(one, two), max(one, two))] = 1 if part[0] == "both" else 0
            waiting.extend(part[1:])
    many = len(doors_of(form))
    return tuple([told[(one, two)] for two in range(many) for one in range(two)])


def web(form):
    """The web of a form."""
    look_at_form(form)
    return web_of(form)


def is_same(form, other):
    """Whether two forms are the same up to order and brackets."""
    look_at_form(form)
    look_at_form(other)
    return made_plain(form) == made_plain(other)


def part_at(form, path):
    """The part of a form at a path, None if there is none."""
    for place in path:
        if is_leaf(form):
            return None
        form = form[place]
    return form


def turned_around(part):
    """What a step makes of a part by turning it, None if that can't be done."""
    return None if is_leaf(part) else (part[0], part[2], part[1])


def bracketed_left(part):
    """What a step makes of a part by bracketing it to the left, None if that can't be done."""
    if is_leaf(part) or is_leaf(part[2]) or part[0] != part[2][0]:
        return None
    word, left, (_, middle, right) = part
    return word, (word, left, middle), right


def bracketed_right(part):
    """What a step makes of a part by bracketing it to the right, None if that can't be done."""
    if is_leaf(part) or is_leaf(part[1]) or part[0] != part[1][0]:
        return None
    word, (_, left, middle), right = part
    return word, left, (word, middle, right)


def passed(part):
    """What a pass makes of a part, None if it can't be done."""
    if is_leaf(part) or is_leaf(part[2]) or part[0] != "both" or part[2][0] != "either":
        return None
    _, left, (_, middle, right) = part
    return "either", ("both", left, middle), right


def part_stepped(part, word):
    """What a step makes of a part, None if it can't be done."""
    if word == "turn":
        return turned_around(part)
    if word == "left":
        return bracketed_left(part)
    return bracketed_right(part) if word == "right" else passed(part)


def with_part(form, path, part):
    """A form with another part at a path at which it has one."""
    if len(path) == 0:
        return part
    inner = with_part(form[path[0]], path[1:], part)
    return (form[0], inner, form[2]) if path[0] == 1 else (form[0], form[1], inner)


def is_path(value):
    """Whether a value is a path."""
    if not isinstance(value, tuple):
        return False
    for place in value:
        if not is_integer_within(place, 1, 2):
            return False
    return True


def step(form, path, word):
    """The form behind a step."""
    look_at_form(form)
    if not isinstance(word, str) or word not in ("turn", "left", "right", "pass"):
        raise BadName(word)
    part = part_at(form, path) if is_path(path) else None
    changed = None if part is None else part_stepped(part, word)
    if changed is None:
        raise BadForm(path)
    return with_part(form, path, changed)


def piece_of_form(form):
    """The piece of what is known to be a form."""
    last = len(doors_of(form)) - 1
    sorts = []
    lines = [((last, 0), (last, 1))]
    waiting = [((last, 2), form)]
    while len(waiting) > 0:
        above, part = waiting.pop()
        if is_leaf(part):
            lines.append((above, (-1, part)))
        else:
            knot = len(sorts)
            word, left, right = part
            sorts.append(word)
            lines.append((above, (knot, 2)))
            waiting.append(((knot, 1), right))
            waiting.append(((knot, 0), left))
    return last + 1, (*sorts, "either"), plain_lines(lines)


def form_piece(form):
    """The piece of a form."""
    look_at_form(form)
    return piece_of_form(form)
