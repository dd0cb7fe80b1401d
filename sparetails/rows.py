"""Rows of marks that never change, each a tuple (cells, length): the first so many of some cells.

Runs keep every row that a name ever had, to take steps back. So that a row that grows again and again is not copied
each time, a longer one has the same cells if nothing stands behind the elder one in them yet.
"""


def row_of(marks):
    """The row with just these marks."""
    return (list(marks), len(marks))


def marks_of(row):
    """The list of the marks of a row."""
    cells, length = row
    return cells[:length]


def shortened(row, many):
    """The row of the first many marks."""
    return (row[0], many)


def lengthened(row, marks):
    """The row with marks behind it."""
    cells, length = row
    if len(cells) != length:
        cells = cells[:length]
    cells.extend(list(marks))
    return (cells, length + len(marks))


def changed(row, at, mark):
    """The row with another mark at an index."""
    marks = marks_of(row)
    marks[at] = mark
    return (marks, len(marks))
