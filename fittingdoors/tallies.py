"""How many partings of the lot of a form go on from a few doors whose blocks are told."""

from fittingdoors.forms import is_leaf

NO_BLOCK = -1


class Tally:
    """A form some doors of which are told: each has the number of its block.

    Each part has a triple: for each told block that its root block may belong to (NO_BLOCK if no
    told door is in the root block) how many pairs of a parting and a root block the part has; how
    many partings it has; and the told blocks that have doors in it. All of them agree with what is
    told. Only root blocks are joined further, so a told block with doors on both sides of a knot
    must be in both root blocks.
    """

    def __init__(self, form):
        self.words = []
        self.sides = []
        self.above = []
        self.counts = []
        self.spots = {}
        self.block_count = 0
        self.lay(form, None)

    def lay(self, part, above):
        """Note a part beneath another one; its place."""
        place = len(self.words)
        self.words.append(None if is_leaf(part) else part[0])
        self.sides.append(())
        self.above.append(above)
        self.counts.append(({NO_BLOCK: 1}, 1, ()))
        if is_leaf(part):
            self.spots[part] = place
        else:
            self.sides[place] = (self.lay(part[1], place), self.lay(part[2], place))
            one, two = self.sides[place]
            self.counts[place] = put_together(part[0], self.counts[one], self.counts[two])
        return place

    def beside(self, place):
        """What the part beside this one has."""
        one, two = self.sides[self.above[place]]
        return self.counts[two if place == one else one]

    def climb(self, place, count):
        """What the parts from this one up have, each behind its place, if this one has COUNT.

        It ends ahead of the root where no parting is left.
        """
        told = [(place, count)]
        while self.above[place] is not None and count[1] > 0:
            above = self.above[place]
            count = put_together(self.words[above], count, self.beside(place))
            place = above
            told.append((place, count))
        return told

    def ways(self, door):
        """For each block in which a door may be how many partings there are; the last block is a new one."""
        new = self.block_count
        path = self.climb(self.spots[door], counts_of_door(new))
        told = [0] * new
        seen = set()
        for place, count in path[:-1]:
            above = self.above[place]
            roots, _, blocks = self.beside(place)
            for block in blocks:
                # Up to where a block is met first, a door in it is like one in a new block.
                if block not in seen:
                    seen.add(block)
                    if self.words[above] == "both" and roots.get(block, 0) > 0:
                        both = put_together("both", renamed(count, new, block), self.beside(place))
                        told[block] = many_at_end(self.climb(above, both))
        return [*told, many_at_end(path)]

    def tell(self, door, block):
        """Tell a door; some parting must be left."""
        for place, count in self.climb(self.spots[door], counts_of_door(block)):
            self.counts[place] = count
        self.block_count = max(self.block_count, block + 1)

    def in_all(self):
        """How many partings there are."""
        return self.counts[0][1]


def many_at_end(path):
    """How many partings the last part has that was climbed to."""
    _, (_, many, _) = path[-1]
    return many


def counts_of_door(block):
    """What a told door has."""
    return {block: 1}, 1, (block,)


def renamed(count, old, block):
    """What a part has when one of its blocks is another one."""
    roots, many, blocks = count
    return ({block if root == old else root: ways for root, ways in roots.items()}, many,
            tuple([block if one == old else one for one in blocks]))


def put_together(word, count, other):
    """What a knot with this word has above two parts."""
    roots, many, blocks = count
    other_roots, other_many, other_blocks = other
    shared = [block for block in other_blocks if block in blocks]
    if len(shared) > (1 if word == "both" else 0):
        return {}, 0, ()
    told = {}
    all_blocks = (*blocks, *[block for block in other_blocks if block not in shared])
    if word == "either":
        for root, ways in roots.items():
            told[root] = ways * other_many
        for root, ways in other_roots.items():
            told[root] = told.get(root, 0) + ways * many
        return told, many * other_many, all_blocks
    if len(shared) == 1:
        told[shared[0]] = roots.get(shared[0], 0) * other_roots.get(shared[0], 0)
    else:
        # Two told blocks are not one, so at most one of the root blocks is told.
        bare = roots.get(NO_BLOCK, 0)
        for root, ways in roots.items():
            told[root] = ways * other_roots.get(NO_BLOCK, 0)
        for root, ways in other_roots.items():
            if root != NO_BLOCK:
                told[root] = ways * bare
    return told, sum(list(told.values())), all_blocks
