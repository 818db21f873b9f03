"""Terms that stand, counted by their letters, and put in order."""

from fittingdoors.errors import BadNumber, TooGreat
from fittingdoors.kinds import is_integer_within
from fittingdoors.letters import look_at_term
from fittingdoors.tables import Table
from fittingdoors.terms import need_system

MOST_COUNTED_LETTERS = 40


def letters_in(term):
    """How many letters a term has."""
    return 1 + sum([letters_in(inner) for inner in term[1:]])


def multiplied(one, two, most):
    """The product of two rows of numbers, by the sums of their places, up to this place."""
    told = [0] * (most + 1)
    for place, many in enumerate(one[:most + 1]):
        if many > 0:
            for other, more in enumerate(two[:most + 1 - place]):
                told[place + other] += many * more
    return told


def add_to(row, more):
    """Add the numbers of one row to those of another one, place by place."""
    for place, many in enumerate(more):
        row[place] += many


class Counting:
    """How many terms of a system come to each of its classes, by their numbers of letters.

    WANTS, wherever it stands, has for each class and each number of letters in how many ways the
    rest of a term can be chosen with so many letters, such that the term stands if a term of this
    class is put into its hole. Terms are ordered as their letters from the left, so they are
    found and placed letter by letter.
    """

    def __init__(self, system, most):
        self.alphabet = system[0]
        self.table = Table(system)
        self.rows = self.table.class_rows()
        self.steps = {(letter, inner): one for letter, inner, one in self.table.class_steps()}
        self.many = [[0] * (most + 1) for _ in self.rows]
        # The same, told apart by the first letter.
        self.many_of = [[[0] * (most + 1) for _ in self.rows] for _ in self.alphabet]
        for size in range(1, most + 1):
            for (letter, inner), one in self.steps.items():
                ways = self.ways_inside(inner, size - 1)
                self.many_of[letter][one][size] += ways
                self.many[one][size] += ways

    def ways_inside(self, inner, size):
        """How many rows of terms of these classes have so many letters together."""
        if len(inner) == 0:
            return 1 if size == 0 else 0
        if len(inner) == 1:
            return self.many[inner[0]][size]
        ahead, behind = inner
        return sum([many * self.many[behind][size - place] for place, many in enumerate(self.many[ahead][:size])])

    def first_wants(self):
        """The wants of a term that stands for itself."""
        return [[1 if stands else 0] for _, stands, _ in self.rows]

    def standing(self, size):
        """How many terms with so many letters stand."""
        return sum([self.many[one][size] for one, (_, stands, _) in enumerate(self.rows) if stands])

    def ways(self, letter, wants, left):
        """In how many ways a term goes on with this letter, if so many letters are left."""
        told = 0
        for many, row in zip(self.many_of[letter], wants):
            told += sum([many[left - place] * more for place, more in enumerate(row[:left])])
        return told

    def wants_inside(self, letter, inner, wants, most):
        """The wants at the next bundle of a letter, terms of INNER being at those ahead."""
        told = [[0] * (most + 1) for _ in self.rows]
        for (other, classes), one in self.steps.items():
            if other == letter and classes[:len(inner)] == inner:
                row = wants[one][:most + 1]
                for behind in classes[len(inner) + 1:]:
                    row = multiplied(row, self.many[behind], most)
                add_to(told[classes[len(inner)]], row)
        return told

    def term_from(self, width, wants, left, place):
        """The term with this UP that is at a place if so many letters are left.

        Told with its class, its number of letters, and the place among those that go on with it.
        """
        letter = 0
        while self.alphabet[letter][0] != width or place >= self.ways(letter, wants, left):
            if self.alphabet[letter][0] == width:
                place -= self.ways(letter, wants, left)
            letter += 1
        term = (letter,)
        inner = ()
        size = 1
        for down in self.alphabet[letter][1]:
            inside = self.wants_inside(letter, inner, wants, left - size)
            below, one, many, place = self.term_from(down, inside, left - size, place)
            term = (*term, below)
            inner = (*inner, one)
            size += many
        return term, self.steps[(letter, inner)], size, place

    def ahead_of(self, term, wants, left):
        """How many terms are ahead of those that go on with this one, if so many letters are left.

        Told with its class and its number of letters.
        """
        up, downs, _ = self.alphabet[term[0]]
        ahead = sum([self.ways(letter, wants, left) for letter in range(term[0]) if self.alphabet[letter][0] == up])
        inner = ()
        size = 1
        for below in term[1:]:
            inside = self.wants_inside(term[0], inner, wants, left - size)
            more, one, many = self.ahead_of(below, inside, left - size)
            ahead += more
            inner = (*inner, one)
            size += many
        return ahead, self.steps[(term[0], inner)], size


def need_few_letters(number):
    """Look at a number of letters."""
    if not is_integer_within(number, 1, MOST_COUNTED_LETTERS):
        raise BadNumber(number)


def standing_counted(system, number):
    """How many terms with so many letters stand."""
    need_system(system)
    need_few_letters(number)
    return Counting(system, number).standing(number)


def standing_term(system, number, place):
    """The term at this place of those with so many letters that stand."""
    need_system(system)
    need_few_letters(number)
    counting = Counting(system, number)
    if not is_integer_within(place, 0, counting.standing(number) - 1):
        raise BadNumber(place)
    term, _, _, _ = counting.term_from(system[1], counting.first_wants(), number, place)
    return term


def standing_place(system, term):
    """The place of a term among those with as many letters that stand, None if it doesn't stand."""
    need_system(system)
    look_at_term(system[0], term)
    number = letters_in(term)
    if number > MOST_COUNTED_LETTERS:
        raise TooGreat(MOST_COUNTED_LETTERS)
    counting = Counting(system, number)
    ahead, one, _ = counting.ahead_of(term, counting.first_wants(), number)
    _, stands, _ = counting.rows[one]
    return ahead if stands else None
