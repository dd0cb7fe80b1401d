"""The rows to which a call leads: the least closed list of them, with the fewest steps to each."""
from heapq import heappop, heappush

from sparetails.errors import TooMany
from sparetails.facts import Facts
from sparetails.moves import points_spoiled, rows_after
from sparetails.passing import call_of, first_row, rows_behind

MAIN_ENTRY = ((), False)
MAIN_CALL = ("main", ((), False))


class Known:
    """What is found once of rows, and may be asked again when several calls are looked at."""

    def __init__(self, facts, growing):
        self.facts = facts
        self._growing = growing
        self._calls = {}
        self._after = {}
        self._behind = {}

    def call_of(self, row):
        """The call of a row, or None if it is not ahead of one."""
        if row not in self._calls:
            self._calls[row] = call_of(self.facts, row) if self.facts.is_at_call(row) else None
        return self._calls[row]

    def followers(self, row):
        """The rows to which a step other than a call leads."""
        if row not in self._after:
            self._after[row] = rows_after(self.facts, self._growing, row)
        return self._after[row]

    def behind(self, row, end):
        """The rows behind the call of a row to which an end row leads."""
        if (row, end) not in self._behind:
            self._behind[(row, end)] = rows_behind(self.facts, row, end)
        return self._behind[(row, end)]


class Closure:
    """The least closed list of rows that has the begin row of a call, a tuple (function, entry)."""

    def __init__(self, known, call, most):
        self.facts = known.facts
        self.first = call
        self._known = known
        self._most = most
        # The fewest steps from the begin of its call to each row, in the order in which they were found.
        self.costs = {}
        # What each row comes of with so few steps: no row, the one ahead of it, or one ahead of a call and its end row.
        self.sources = {}
        # For each tuple (function, entry) the rows ahead of such a call, and the end rows of it.
        self.callers = {}
        self.ended = {}
        self._waiting = []
        self._fill()

    def _fill(self):
        self._begin(self.first)
        while self._waiting:
            cost, row, source = heappop(self._waiting)
            if row not in self.costs:
                if len(self.costs) == self._most:
                    raise TooMany(self._most)
                self.costs[row] = cost
                self.sources[row] = source
                self._go_on(row, cost)

    def _begin(self, call):
        """Lets a call with an entry begin, if none has."""
        if call not in self.callers:
            self.callers[call] = []
            self.ended[call] = []
            heappush(self._waiting, (0, first_row(self.facts, call[0], call[1]), ()))

    def _go_on(self, row, cost):
        """Lets all rows wait that come of a row, and of what was found ahead of it."""
        call = self._known.call_of(row)
        if call is not None:
            self._begin(call)
            self.callers[call].append(row)
            for end in self.ended[call]:
                self._come_back(row, end)
        elif self.facts.statement_of(row) is None:
            self.ended[row[:2]].append(row)
            for caller in self.callers[row[:2]]:
                self._come_back(caller, row)
        for follower in self._known.followers(row):
            heappush(self._waiting, (cost + 1, follower, (row,)))

    def _come_back(self, row, end):
        # A step begins the call, and another one ends it.
        cost = self.costs[row] + self.costs[end] + 2
        for told in self._known.behind(row, end):
            heappush(self._waiting, (cost, told, (row, end)))

    def begins(self):
        """The dict from the calls that begin to the fewest steps ahead of their first one, and the row ahead of it."""
        fewest = {self.first: (0, None)}
        going = True
        while going:
            going = False
            for call, rows in self.callers.items():
                told = [(fewest[row[:2]][0] + self.costs[row] + 1, row) for row in rows if row[:2] in fewest]
                if told and (call not in fewest or min(told)[0] < fewest[call][0]):
                    fewest[call] = min(told)
                    going = True
        return fewest

    def spoiling(self):
        """The ascending list of the rows that spoil."""
        return [row for row in sorted(list(self.costs)) if points_spoiled(self.facts, row)]

    def soonest(self):
        """The tuple (steps, row) of the fewest steps of which the last one spoils, and the row ahead of it; or None."""
        begins = self.begins()
        told = [(begins[row[:2]][0] + self.costs[row] + 1, row) for row in self.spoiling()]
        return min(told, default=None)


def closure_of(program, growing, most):
    """The Closure of main; its rows are the table of a program."""
    return Closure(Known(Facts(program), growing), MAIN_CALL, most)
