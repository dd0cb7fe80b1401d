"""Closed tables of the rows in which the calls of a program can stand."""
from sparetails.closing import MAIN_ENTRY, closure_of
from sparetails.facts import Facts
from sparetails.forms import is_row, is_rowlike
from sparetails.moves import points_spoiled, rows_after
from sparetails.passing import call_of, first_row, rows_behind


class Table:
    """The least closed table of a program, with the fewest steps to each row."""

    def __init__(self, program, growing, *, most=1000):
        self._closure = closure_of(program, growing, most)
        self._begins = self._closure.begins()

    def __len__(self):
        return len(self._closure.costs)

    def __contains__(self, thing):
        # Truths are equal to integers, so the form comes first.
        return is_rowlike(thing) and thing in self._closure.costs

    def rows(self):
        """The ascending list of the rows."""
        return sorted(list(self._closure.costs))

    def rows_at(self, function, address):
        """The ascending list of the rows at a place."""
        return [row for row in self.rows() if (row[0], row[2]) == (function, address)]

    def entries(self):
        """The ascending list of the tuples (function, entry) of the calls."""
        return sorted(list(self._closure.callers))

    def ends(self, function, entry):
        """The ascending list of the end rows of a function with an entry."""
        return sorted(self._closure.ended.get((function, entry), []))

    def spoiling(self):
        """The ascending list of the rows that spoil."""
        return self._closure.spoiling()

    def cost(self, row):
        """The fewest steps with which a call comes from its begin to a row."""
        return self._closure.costs[row]

    def entry_cost(self, function, entry):
        """The fewest steps of a run ahead of the first step of such a call."""
        return self._begins[(function, entry)][0]


def _is_followed(facts, growing, rows, row):
    """Whether a row spoils nothing and the rows to which it leads by itself are keys of rows."""
    if points_spoiled(facts, row):
        return False
    told = rows_after(facts, growing, row)
    if facts.is_at_call(row):
        function, entry = call_of(facts, row)
        told = [first_row(facts, function, entry)]
    return all([one in rows for one in told])


def is_closed(program, growing, thing):
    """Whether thing, any value, is a list of rows that has all to which its rows lead, and of which none spoils."""
    facts = Facts(program)
    if not isinstance(thing, list) or not all([is_row(facts, row) for row in thing]):
        return False
    rows = {row: True for row in thing}
    if first_row(facts, "main", MAIN_ENTRY) not in rows:
        return False
    if not all([_is_followed(facts, growing, rows, row) for row in rows]):
        return False
    ends = {}
    for row in rows:
        if facts.statement_of(row) is None:
            ends.setdefault(row[:2], []).append(row)
    for row in rows:
        if facts.is_at_call(row):
            for end in ends.get(call_of(facts, row), []):
                if not all([one in rows for one in rows_behind(facts, row, end)]):
                    return False
    return True
