"""Which doors are mates, and the plain form that is told by mates.

MATES, wherever it stands, has a row for each door: for each door 1 if the two are mates, otherwise 0.
"""

from itertools import permutations

from fittingdoors.forms import bracketed, doors_of, limbs_of


def mates_in(lot, number):
    """The mates in a lot of so many doors."""
    return [[1 if one != two and is_met_by(lot, one, two) else 0 for two in range(number)] for one in range(number)]


def is_met_by(lot, one, two):
    """Whether two doors lie in one block in some parting of a lot."""
    for parting in lot:
        if parting[one] == parting[two]:
            return True
    return False


def is_way(mates, doors):
    """Whether four doors are a way."""
    one, two, three, four = doors
    if mates[one][two] + mates[two][three] + mates[three][four] < 3:
        return False
    return mates[one][three] + mates[one][four] + mates[two][four] == 0


def least_way(mates):
    """The least way of four doors, or None."""
    doors = list(range(len(mates)))
    for row in permutations(doors, 4):
        if is_way(mates, row):
            return row
    return None


def hung_together(doors, mates, sign):
    """These doors in rows that hang together by pairs that are mates, or that are not (SIGN 1 or 0)."""
    told = []
    while len(doors) > 0:
        row = [doors[0]]
        doors = doors[1:]
        at = 0
        while at < len(row):
            signs = mates[row[at]]
            row.extend([door for door in doors if signs[door] == sign])
            doors = [door for door in doors if signs[door] != sign]
            at += 1
        told.append(sorted(row))
    return told


def form_by_mates(doors, mates):
    """The plain form of these doors whose knots are BOTH just where two doors are mates.

    It is None if there is a way.
    """
    if len(doors) == 1:
        return doors[0]
    word = "either"
    rows = hung_together(doors, mates, 1)
    if len(rows) == 1:
        word = "both"
        rows = hung_together(doors, mates, 0)
    limbs = []
    for row in rows:
        limb = form_by_mates(row, mates) if len(rows) > 1 else None
        if limb is None:
            return None
        limbs.append((row[0], limb))
    return bracketed(word, limbs)


def candidate(mates):
    """The plain form of all doors that is told by these mates, None if there is a way."""
    return form_by_mates(list(range(len(mates))), mates)


def widened(form, door, bits):
    """The plain form of a plain form and of one more door, that is greater than its doors.

    BITS tells for each door of the form 1 if it is a mate of the one more. It is None if there is a way.
    """
    many = sum([bits[one] for one in doors_of(form)])
    if many == 0 or many == len(doors_of(form)):
        return "both" if many > 0 else "either", form, door
    word = form[0]
    # Limbs to all doors of which the new one is as they are to one another stay as they are.
    bit = 1 if word == "both" else 0
    limbs = limbs_of(form, word)
    apart = [pair for pair in limbs if (1 - bit) in [bits[one] for one in doors_of(pair[1])]]
    least, inner = apart[0]
    if len(apart) == 1:
        inner = widened(inner, door, bits)
        if inner is None:
            return None
    elif bit in [bits[one] for _, limb in apart for one in doors_of(limb)]:
        return None
    else:
        inner = ("either" if word == "both" else "both", bracketed(word, apart), door)
    return bracketed(word, [*[pair for pair in limbs if pair not in apart], (least, inner)])


def forms_with(number, choices):
    """The plain forms with so many doors, by their webs ascending.

    CHOICES has for each pair of doors, as a web has them, what may be told of it.
    """
    # What is told door by door comes by the webs ascending.
    rows = [0]
    for door in range(1, number):
        begun = door * (door - 1) // 2
        bits = [()]
        for choice in choices[begun:begun + door]:
            bits = [(*row, bit) for row in bits for bit in choice]
        told = [widened(form, door, row) for form in rows for row in bits]
        rows = [form for form in told if form is not None]
    return tuple(rows)
