"""Numbers of which some have to be greater than others by so much at least."""


class Lengths:
    """Numbers, told by their indexes, and what is asked of them."""

    def __init__(self):
        self._many = 0
        # Tuples (upper, lower, gap): the upper one is at least as great as the lower one and the gap together.
        self._gaps = []

    def add(self):
        """The index of a further number."""
        self._many = self._many + 1
        return self._many - 1

    def set_apart(self, upper, lower, gap):
        """Lets a number be greater than another one by a gap at least."""
        self._gaps.append((upper, lower, gap))

    def rank(self, levels):
        """Lets the numbers of each level, a list of indexes, be equal, and greater than those of the one below."""
        for level in levels:
            for one in level[1:]:
                self.set_apart(one, level[0], 0)
                self.set_apart(level[0], one, 0)
        for lower, upper in zip(levels, levels[1:]):
            self.set_apart(upper[0], lower[0], 1)

    def least(self, bottom):
        """The list of the least numbers, none below the bottom, with which all holds that is asked."""
        numbers = [bottom] * self._many
        # Each round settles one more number of each chain at least.
        for _ in range(self._many):
            going = False
            for upper, lower, gap in self._gaps:
                if numbers[upper] < numbers[lower] + gap:
                    numbers[upper] = numbers[lower] + gap
                    going = True
            if not going:
                break
        return numbers
