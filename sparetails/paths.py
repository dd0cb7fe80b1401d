"""Shortest paths along the rows of a closed table.

A path is a list of moves, one for each step of a run: ("step", row, follower), ("call", row, begin row of the call),
("back", row ahead of the call, end row of the call, row behind it).
"""
from sparetails.passing import first_row


def _call(closure, row, call):
    return ("call", row, first_row(closure.facts, call[0], call[1]))


def _last_moves(closure, row):
    """What leads to a row from the begin of its call: moves, and tuples ("to", row) for all that leads to others."""
    source = closure.sources[row]
    if len(source) == 0:
        return []
    if len(source) == 1:
        return [("to", source[0]), ("step", source[0], row)]
    ahead, end = source
    return [("to", ahead), _call(closure, ahead, end[:2]), ("to", end), ("back", ahead, end, row)]


def path_to(closure, row):
    """A shortest path to a row, from the begin of main's call."""
    begins = closure.begins()
    # What is to be done last stands first, as on a stack.
    waiting = [("to", row)]
    call = row[:2]
    while begins[call][1] is not None:
        ahead = begins[call][1]
        waiting.extend([_call(closure, ahead, call), ("to", ahead)])
        call = ahead[:2]
    told = []
    while waiting:
        one = waiting.pop()
        if one[0] == "to":
            waiting.extend(list(reversed(list(_last_moves(closure, one[1])))))
        else:
            told.append(one)
    return told
