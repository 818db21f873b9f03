"""Things, numbered from 0, that are put together bit by bit."""


class Clumps:
    """At first each thing is a clump of its own."""

    def __init__(self, number):
        self.heads = list(range(number))
        self.many = number

    def head(self, thing):
        """The thing that stands for the clump of this one."""
        while self.heads[thing] != thing:
            # Shorter ways for later calls; the clumps stay the same.
            self.heads[thing] = self.heads[self.heads[thing]]
            thing = self.heads[thing]
        return thing

    def unite(self, thing, other):
        """Make the clumps of two things one; False if they are one already."""
        here = self.head(thing)
        there = self.head(other)
        if here == there:
            return False
        self.heads[max(here, there)] = min(here, there)
        self.many -= 1
        return True

    def unite_all(self, things):
        """Make the clumps of several things one; False as soon as two of them are one already."""
        for thing in things[1:]:
            if not self.unite(things[0], thing):
                return False
        return True

    def twin(self):
        """The same clumps once more; neither changes the other."""
        other = Clumps(len(self.heads))
        other.heads = list(self.heads)
        other.many = self.many
        return other
