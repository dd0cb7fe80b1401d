"""The steps of calls along rows: tuples (function, entry, address, shape)."""
from sparetails.facts import Facts
from sparetails.moves import points_spoiled, rows_after
from sparetails.passing import call_of, entries_of, first_row, rows_behind


def begin_row(program, function, entry):
    """The row with which a call of a function with an entry begins."""
    return first_row(Facts(program), function, entry)


def followers(program, growing, row):
    """The ascending list of the rows to which a step leads that spoils nothing, but for calls and their ends."""
    return rows_after(Facts(program), growing, row)


def spoiled(program, growing, row):
    """The ascending list of the points that some step of a row spoils."""
    # Which steps there are hangs on the rooms that stand in the row, not on those to come.
    return points_spoiled(Facts(program), row)


def called(program, row):
    """The tuple (function, entry) of the call ahead of which a row is."""
    return call_of(Facts(program), row)


def all_entries(many):
    """The ascending list of all entries for 0, 1 or 2 parameters."""
    return entries_of(many)


def behind(program, row, end):
    """The ascending list of the rows behind a call to which an end row with its entry leads."""
    return rows_behind(Facts(program), row, end)
