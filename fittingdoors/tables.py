"""Terms that go for one another in a system, and the least table that tells which stand."""

from fittingdoors.letters import look_at_term
from fittingdoors.partings import numbered
from fittingdoors.states import States
from fittingdoors.terms import meets_goal, need_system


def is_standing(state, width, goal):
    """Whether the terms of a state stand in a system with this width and this goal."""
    up, lot = state
    return up == width and lot is not None and meets_goal(lot, goal)


class Table:
    """The states of a system, put together to classes of terms that go for one another."""

    def __init__(self, system):
        alphabet, self.width, self.goal = system
        self.states = States(alphabet)
        self.stands = [is_standing(state, self.width, self.goal) for state in self.states.told]
        self.classes = numbered(list(zip(self.states.ups, self.stands)))
        seats = self.seats()
        finer = self.classes_parted(seats)
        while finer != self.classes:
            self.classes = finer
            finer = self.classes_parted(seats)

    def seats(self):
        """For each state all that comes when a term of it is put into a bundle of a letter.

        States with the same UP have the same seats, in the same order: the letter, which bundle,
        and the states at the other one.
        """
        told = [[] for _ in self.states.told]
        for (letter, inner), state in self.states.steps.items():
            for bundle, one in enumerate(inner):
                told[one].append(((letter, bundle, inner[:bundle], inner[bundle + 1:]), state))
        return [[state for _, state in sorted(row)] for row in told]

    def classes_parted(self, seats):
        """The classes, parted where what comes in some seat is not in one class."""
        return numbered([(old, tuple([self.classes[state] for state in row]))
                         for old, row in zip(self.classes, seats)])

    def class_at(self, term):
        """The number of the class of a term."""
        return self.classes[self.states.number_at(term)]

    def class_rows(self):
        """For each class its UP, whether its terms stand, and its least term."""
        rows = {}
        # The states come by their least terms; the first one of a class has that of the class.
        for place, one in enumerate(self.classes):
            rows.setdefault(one, (self.states.ups[place], self.stands[place], self.states.terms[place]))
        return tuple(list(rows.values()))

    def class_steps(self):
        """For each letter and the classes at its bundles the class that comes, ascending."""
        told = {}
        for (letter, inner), state in self.states.steps.items():
            told[(letter, tuple([self.classes[one] for one in inner]))] = self.classes[state]
        return tuple(sorted([(letter, inner, one) for (letter, inner), one in told.items()]))


def least_table(system):
    """The classes, and the steps that lead to them."""
    table = Table(need_system(system))
    return table.class_rows(), table.class_steps()


def class_of(system, term):
    """The number of the class of a term."""
    need_system(system)
    look_at_term(system[0], term)
    return Table(system).class_at(term)
