"""What comes of terms, found by their least terms."""

from heapq import heappop, heappush


class Walk:
    """All that terms of an alphabet come to, numbered by their least terms.

    What a term comes to hangs on its first letter and on what the terms at its bundles come to. A
    least term has least terms at its bundles, and these have fewer letters: so all is found one by
    one if always the least term that is waiting is looked at. A class below this one tells by
    COME_TO what a letter comes to.
    """

    def __init__(self, alphabet):
        self.alphabet = alphabet
        # For each thing what it is, its UP, its least term, and how many letters this has.
        self.told = []
        self.ups = []
        self.terms = []
        self.sizes = []
        # For each letter and the things at its bundles the thing that comes.
        self.steps = {}

    def run(self):
        """Find everything."""
        numbers = {}
        # What is sorted is a heap.
        waiting = sorted([(1, (letter,), ()) for letter, (_, downs, _) in enumerate(self.alphabet) if len(downs) == 0])
        while len(waiting) > 0:
            size, term, inner = heappop(waiting)
            thing = self.come_to(term[0], inner)
            if thing not in numbers:
                numbers[thing] = len(self.told)
                self.told.append(thing)
                self.ups.append(self.alphabet[term[0]][0])
                self.terms.append(term)
                self.sizes.append(size)
                for use in self.uses():
                    heappush(waiting, use)
            self.steps[(term[0], inner)] = numbers[thing]

    def uses(self):
        """All terms of a letter and of least terms that could not be built ahead of the last thing.

        Each stands behind its number of letters, and ahead of the things at its bundles.
        """
        found = []
        for letter, (_, downs, _) in enumerate(self.alphabet):
            for inner in self.rows_with_last(downs):
                term = (letter, *[self.terms[one] for one in inner])
                found.append((1 + sum([self.sizes[one] for one in inner]), term, inner))
        return found

    def rows_with_last(self, downs):
        """All tuples of things with these widths as their UPs, among them the last one."""
        last = len(self.ups) - 1
        rows = []
        rows_without = [()]
        for width in downs:
            older = [one for one, up in enumerate(self.ups[:-1]) if up == width]
            here = [(*row, last) for row in [*rows, *rows_without]] if self.ups[last] == width else []
            rows = here + [(*row, one) for row in rows for one in older]
            rows_without = [(*row, one) for row in rows_without for one in older]
        return rows

    def come_to(self, letter, inner):
        """What a letter with these things at its bundles comes to."""
        return letter, inner

    def number_at(self, term):
        """The number of what a term comes to."""
        return self.steps[(term[0], tuple([self.number_at(inner) for inner in term[1:]]))]
