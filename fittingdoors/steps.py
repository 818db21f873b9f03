"""A form that is changed step by step, the steps being noted."""

from fittingdoors.forms import doors_of, is_leaf, part_at, part_stepped, with_part


class Stepping:
    """A form, and the steps that have led to it."""

    def __init__(self, form):
        self.form = form
        self.steps = []

    def take(self, path, word):
        """Take a step that can be taken."""
        self.form = with_part(self.form, path, part_stepped(part_at(self.form, path), word))
        self.steps.append((path, word))

    def make_plain(self, path):
        """Make the part at this path plain."""
        part = part_at(self.form, path)
        if not is_leaf(part):
            self.make_plain((*path, 1))
            self.make_plain((*path, 2))
            self.merge(path)

    def merge(self, path):
        """Make the part at this path plain, both sides of which are plain."""
        word, _, right = part_at(self.form, path)
        if not is_leaf(right) and right[0] == word:
            self.take(path, "left")
            self.merge((*path, 1))
        self.sink(path)

    def sink(self, path):
        """Put the last limb of the part at this path where it belongs; the limbs ahead are in order."""
        word, left, right = part_at(self.form, path)
        is_single = is_leaf(left) or left[0] != word
        last = left if is_single else left[2]
        if min(doors_of(last)) > min(doors_of(right)):
            if is_single:
                self.take(path, "turn")
            else:
                self.take(path, "right")
                self.take((*path, 2), "turn")
                self.take(path, "left")
                self.sink((*path, 1))

    def lead_to(self, form):
        """Go on to a form that is the same up to order and brackets."""
        self.make_plain(())
        back = Stepping(form)
        back.make_plain(())
        for path, word in list(reversed(back.steps)):
            self.take(path, "right" if word == "left" else "left" if word == "right" else word)
