"""Runs in which something else is seen than each name would have by itself."""
from sparetails.closing import closure_of
from sparetails.endings import Ending
from sparetails.paths import path_to
from sparetails.runs import is_run, looks, wrong_look
from sparetails.sketches import run_along
from sparetails.traces import Trace, sees

# With two cells at least, a set behind the step that spoils can leave the spoiled cell as it is.
LEAST_LENGTH = 2


def _seeing(trace, cell):
    """A tuple (index of a call, name) that is watched behind the next step and sees a cell; None if the store does."""
    watched = trace.watched_windows()
    for level in range(len(watched) - 1, -1, -1):
        for name, window in watched[level].items():
            if sees(window, cell):
                return (level, name)
    return None


def _go_on(program, machine, victim, index):
    """Goes on until a look is wrong, behind a step that spoiled the cell with an index of what a victim sees."""
    ending = Ending(program, machine, index)
    if victim is not None:
        level, name = victim
        ending.end_calls(level)
        ending.show(name)
    ending.end()


def wrong_run(program, growing, *, most=1000):
    """A run with a look that is not right, with the fewest steps up to the first one that spoils; None if plain."""
    closure = closure_of(program, growing, most)
    soonest = closure.soonest()
    if soonest is None:
        return None
    run = run_along(closure.facts, growing, path_to(closure, soonest[1]), LEAST_LENGTH)
    trace = Trace(closure.facts, growing, run[1])
    for told in run[2]:
        trace.step(told)
    data = (0,) if trace.statement_ahead()[0] == "set" else (1,)
    cell = trace.written(data)
    victim = _seeing(trace, cell)
    trace.step(data)
    _go_on(program, trace.machine, victim, cell[1])
    return trace.machine.run()


def is_wrong_run(program, growing, thing):
    """Whether thing, any value, is a run of a program with a growing in which some look is not right."""
    return is_run(program, thing) and thing[0] == growing and wrong_look(program, thing) is not None


def seen_wrong(program, run):
    """The tuple (index, seen marks, marks by the plain meaning) of the first look that is not right, or None."""
    for at, (_, marks, plain) in enumerate(looks(program, run)):
        if marks != plain:
            return (at, marks, plain)
    return None
