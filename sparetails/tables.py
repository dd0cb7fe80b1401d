"""Closed tables of the rows in which the calls of a program can stand."""
from heapq import heappop, heappush

from sparetails.errors import TooMany
from sparetails.facts import Facts
from sparetails.forms import is_row, is_rowlike
from sparetails.moves import points_spoiled, rows_after
from sparetails.passing import call_of, first_row, rows_behind

MAIN_ENTRY = ((), False)


class Table:
    """The least closed table of a program, with the fewest steps to each row."""

    def __init__(self, program, growing, *, most=1000):
        self._facts = Facts(program)
        self._growing = growing
        self._most = most
        # The fewest steps from the begin of its call to each row, in the order in which they were found.
        self._costs = {}
        # For each tuple (function, entry) the rows ahead of such a call, and the end rows of it.
        self._callers = {}
        self._ends = {}
        self._waiting = []
        self._fill()
        self._begins = self._entry_costs()

    def _fill(self):
        self._begin(("main", MAIN_ENTRY))
        while self._waiting:
            cost, row = heappop(self._waiting)
            if row not in self._costs:
                if len(self._costs) == self._most:
                    raise TooMany(self._most)
                self._costs[row] = cost
                self._go_on(row, cost)

    def _begin(self, call):
        """Lets a call with an entry begin, if none has."""
        if call not in self._callers:
            self._callers[call] = []
            self._ends[call] = []
            heappush(self._waiting, (0, first_row(self._facts, call[0], call[1])))

    def _go_on(self, row, cost):
        """Lets all rows wait that come of a row, and of what was found ahead of it."""
        if self._facts.is_at_call(row):
            call = call_of(self._facts, row)
            self._begin(call)
            self._callers[call].append(row)
            for end in self._ends[call]:
                self._come_back(row, end)
        elif self._facts.statement_of(row) is None:
            call = row[:2]
            self._ends[call].append(row)
            for caller in self._callers[call]:
                self._come_back(caller, row)
        for follower in rows_after(self._facts, self._growing, row):
            heappush(self._waiting, (cost + 1, follower))

    def _come_back(self, row, end):
        # A step begins the call, and another one ends it.
        cost = self._costs[row] + self._costs[end] + 2
        for told in rows_behind(self._facts, row, end):
            heappush(self._waiting, (cost, told))

    def _entry_costs(self):
        """The dict from the calls that begin to the fewest steps of a run ahead of their first one."""
        fewest = {("main", MAIN_ENTRY): 0}
        going = True
        while going:
            going = False
            for call, rows in self._callers.items():
                costs = [fewest[row[:2]] + self._costs[row] + 1 for row in rows if row[:2] in fewest]
                if costs and (call not in fewest or min(costs) < fewest[call]):
                    fewest[call] = min(costs)
                    going = True
        return fewest

    def __len__(self):
        return len(self._costs)

    def __contains__(self, thing):
        # Truths are equal to integers, so the form comes first.
        return is_rowlike(thing) and thing in self._costs

    def rows(self):
        """The ascending list of the rows."""
        return sorted(list(self._costs))

    def rows_at(self, function, address):
        """The ascending list of the rows at a place."""
        return [row for row in self.rows() if (row[0], row[2]) == (function, address)]

    def entries(self):
        """The ascending list of the tuples (function, entry) of the calls."""
        return sorted(list(self._callers))

    def ends(self, function, entry):
        """The ascending list of the end rows of a function with an entry."""
        return sorted(self._ends.get((function, entry), []))

    def spoiling(self):
        """The ascending list of the rows that spoil."""
        return [row for row in self.rows() if points_spoiled(self._facts, row)]

    def cost(self, row):
        """The fewest steps with which a call comes from its begin to a row."""
        return self._costs[row]

    def entry_cost(self, function, entry):
        """The fewest steps of a run ahead of the first step of such a call."""
        return self._begins[(function, entry)]


def _is_followed(facts, growing, rows, row):
    """Whether a row spoils nothing and the rows to which it leads by itself are keys of rows."""
    if points_spoiled(facts, row):
        return False
    told = rows_after(facts, growing, row)
    if facts.is_at_call(row):
        function, entry = call_of(facts, row)
        told = [first_row(facts, function, entry)]
    return all([one in rows for one in told])


def is_closed(program, growing, thing):
    """Whether thing, any value, is a list of rows that has all to which its rows lead, and of which none spoils."""
    facts = Facts(program)
    if not isinstance(thing, list) or not all([is_row(facts, row) for row in thing]):
        return False
    rows = {row: True for row in thing}
    if first_row(facts, "main", MAIN_ENTRY) not in rows:
        return False
    if not all([_is_followed(facts, growing, rows, row) for row in rows]):
        return False
    ends = {}
    for row in rows:
        if facts.statement_of(row) is None:
            ends.setdefault(row[:2], []).append(row)
    for row in rows:
        if facts.is_at_call(row):
            for end in ends.get(call_of(facts, row), []):
                if not all([one in rows for one in rows_behind(facts, row, end)]):
                    return False
    return True
