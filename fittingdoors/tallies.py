"""How many partings of the lot of a form go on from a few doors whose blocks are told."""

from fittingdoors.forms import is_leaf

NO_BLOCK = -1


class Tally:
    """A form some doors of which are told: each has the number of its block.

    Each part has a triple: for each told block that its root block may belong to (NO_BLOCK if no
    told door is in the root block) how many pairs of a parting and a root block the part has; how
    many partings it has; and the told blocks that have doors in it. All of them agree with what is
    told. Only root blocks are joined further, so a told block with doors on both sides of a knot
    must be in both root blocks.
    """

    def __init__(self, form):
        self.words = []
        self.sides = []
        self.above = []
        self.counts = []
        self.spots = {}
        self.lay(form, None)

    def lay(self, part, above):
        """Note a part beneath another one; its place."""
        place = len(self.words)
        self.words.append(None if is_leaf(part) else part[0])
        self.sides.append(())
        self.above.append(above)
        self.counts.append(({NO_BLOCK: 1}, 1, ()))
        if is_leaf(part):
            self.spots[part] = place
        else:
            self.sides[place] = (self.lay(part[1], place), self.lay(part[2], place))
            one, two = self.sides[place]
            self.counts[place] = put_together(part[0], self.counts[one], self.counts[two])
        return place

    def counts_with(self, door, block):
        """What the parts above a door have, each behind its place, if this door is told as well.

        It ends ahead of the root where no parting is left.
        """
        place = self.spots[door]
        count = ({block: 1}, 1, (block,))
        told = [(place, count)]
        while self.above[place] is not None and count[1] > 0:
            place, below = self.above[place], place
            one, two = self.sides[place]
            other = self.counts[two if below == one else one]
            count = put_together(self.words[place], count, other)
            told.append((place, count))
        return told

    def many_with(self, door, block):
        """How many partings there are if this door is told as well."""
        _, (_, many, _) = self.counts_with(door, block)[-1]
        return many

    def tell(self, door, block):
        """Tell a door; some parting must be left."""
        for place, count in self.counts_with(door, block):
            self.counts[place] = count

    def in_all(self):
        """How many partings there are."""
        return self.counts[0][1]


def put_together(word, count, other):
    """What a knot with this word has above two parts."""
    roots, many, blocks = count
    other_roots, other_many, other_blocks = other
    shared = [block for block in other_blocks if block in blocks]
    if len(shared) > (1 if word == "both" else 0):
        return {}, 0, ()
    told = {}
    all_blocks = (*blocks, *[block for block in other_blocks if block not in shared])
    if word == "either":
        for root, ways in roots.items():
            told[root] = ways * other_many
        for root, ways in other_roots.items():
            told[root] = told.get(root, 0) + ways * many
        return told, many * other_many, all_blocks
    if len(shared) == 1:
        told[shared[0]] = roots.get(shared[0], 0) * other_roots.get(shared[0], 0)
    else:
        # Two told blocks are not one, so at most one of the root blocks is told.
        bare = roots.get(NO_BLOCK, 0)
        for root, ways in roots.items():
            told[root] = ways * other_roots.get(NO_BLOCK, 0)
        for root, ways in other_roots.items():
            if root != NO_BLOCK:
                told[root] = ways * bare
    return told, sum(list(told.values())), all_blocks
