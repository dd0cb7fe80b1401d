"""Moments of runs, as rows tell them, and runs to rows."""
from sparetails.closing import closure_of
from sparetails.facts import Facts
from sparetails.forms import is_rowlike
from sparetails.paths import path_to
from sparetails.sketches import run_along
from sparetails.traces import Trace


def row_of(program, run):
    """The row in which the call at work stands behind a run, or None if a step of it spoils."""
    growing, begins, data = run
    trace = Trace(Facts(program), growing, begins)
    for told in data:
        if trace.victim(told) is not None:
            return None
        trace.step(told)
    return trace.row()


def run_to(program, growing, row, *, most=1000):
    """A run with the fewest steps behind which the call at work stands in a row, and no step spoils; or None."""
    closure = closure_of(program, growing, most)
    # Truths are equal to integers, so the form comes first.
    if not is_rowlike(row) or row not in closure.costs:
        return None
    return run_along(closure.facts, growing, path_to(closure, row), 1)
