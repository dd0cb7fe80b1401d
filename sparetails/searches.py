"""Which sets of a few things are enough, if more of them always are."""


def sets_of(many):
    """The list of all sets of so many things, the greatest first; a set is an integer with a bit for each thing."""
    told = [[] for _ in range(many + 1)]
    for one in range(1 << many):
        told[sum([one >> k & 1 for k in range(many)])].append(one)
    return [one for row in reversed(list(told)) for one in row]


class Search:
    """What is known of all sets of so many things.

    ask is called with a set, and returns whether it is enough, or None if this cannot be told.
    """

    def __init__(self, many, ask):
        self._many = many
        self._ask = ask
        self._told = {}
        for one in sets_of(many):
            if self._is_enough(one) is True:
                self._shrink(one)

    def _inferred(self, one):
        """Whether a set is enough by what is told of those in it and around it, or None."""
        for other, enough in self._told.items():
            if enough is True and one & other == other:
                return True
            if enough is False and one | other == other:
                return False
        return None

    def _is_enough(self, one):
        known = self._inferred(one)
        if known is not None or one in self._told:
            return known
        ask = self._ask
        self._told[one] = ask(one)
        return self._told[one]

    def _shrink(self, one):
        """Takes things out of a set that is enough as long as it is."""
        left = one
        for k in range(self._many):
            if left >> k & 1 and self._is_enough(left - (1 << k)) is True:
                left = left - (1 << k)

    def is_settled(self):
        """Whether it is known of each set whether it is enough."""
        return all([self._inferred(one) is not None for one in sets_of(self._many)])

    def least(self):
        """The list of the sets that are enough, and none of which has another one in it."""
        told = [one for one, enough in self._told.items() if enough is True]
        return [one for one in told if not [other for other in told if other != one and one & other == other]]

    def greatest(self):
        """The list of the sets that are not enough, and none of which is within another one."""
        told = [one for one, enough in self._told.items() if enough is False]
        return [one for one in told if not [other for other in told if other != one and one | other == other]]
