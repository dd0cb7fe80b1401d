"""What the steps of a program have to know of it: statements, and what is alive or watched behind them."""
from sparetails.flows import alive_names, watched_names
from sparetails.shapes import kept_points, shape_of


class Facts:
    """What is found once for a program, and asked for many of its rows.

    But for shapes the first three of what a row tells are enough, where a call stands.
    """

    def __init__(self, program):
        self.subject = program
        self._alive = alive_names(program)
        self._watched = watched_names(program)
        # Rows have few orders, and these again and again.
        self._kept = {}

    def alive_at(self, place):
        """The ascending list of the names alive at a place."""
        return list(self._alive[place])

    def spot_of(self, row):
        """The Spot at which the call of a row stands."""
        return self.subject.spot_at((row[0], row[2]))

    def statement_of(self, row):
        """The statement ahead of which the call of a row stands, or None at an end."""
        return self.spot_of(row).statement

    def is_at_call(self, row):
        """Whether a row is ahead of a call."""
        statement = self.statement_of(row)
        return statement is not None and statement[0] == "call"

    def watched_behind(self, row):
        """The names watched behind the statement of a row, but for the one that it names first."""
        return [name for name in self._watched_then(row) if name != self.statement_of(row)[1]]

    def is_made_watched(self, row):
        """Whether the name that the statement of a row names first is watched behind it."""
        return self.statement_of(row)[1] in self._watched_then(row)

    def _watched_then(self, row):
        function, entry = row[:2]
        return self._watched[(function, entry[1], self.spot_of(row).after)]

    def rows_at(self, row, addresses, shapes):
        """The ascending list of the rows of the same call at some addresses, with what is kept there of some shapes."""
        function, entry = row[:2]
        return sorted(set([
            (function, entry, address, self._shape_at((function, address), shape))
            for address in addresses for shape in shapes
        ]))

    def _shape_at(self, place, shape):
        """What is kept of a shape at a place."""
        return shape_of([one for order in shape for one in self._order_at(place, order)])

    def _order_at(self, place, order):
        """What is kept of an order at a place: a shape of one order or of none."""
        key = (place, order)
        if key not in self._kept:
            self._kept[key] = kept_points((order,), self._alive[place])
        return self._kept[key]
