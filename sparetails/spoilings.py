"""Which steps of a program spoil, and how soon."""
from sparetails.closing import closure_of
from sparetails.facts import Facts
from sparetails.moves import first_victims
from sparetails.traces import Trace


def first_spoiling(program, run):
    """The tuple (index, function, address, victim) of the first step of a run that spoils, or None."""
    growing, begins, data = run
    trace = Trace(Facts(program), growing, begins)
    for at, told in enumerate(data):
        victim = trace.victim(told)
        if victim is not None:
            return (at, *trace.machine.here(), victim)
        trace.step(told)
    return None


def spoilings(program, growing, *, most=1000):
    """The ascending list of the tuples (function, address, victim) of the first spoiling steps of all runs."""
    closure = closure_of(program, growing, most)
    return sorted(set([
        (row[0], row[2], victim) for row in closure.spoiling() for victim in first_victims(closure.facts, row)
    ]))


def is_plain(program, growing, *, most=1000):
    """Whether all runs of a program show what they would if each name had a row of its own."""
    return not closure_of(program, growing, most).spoiling()


def fewest_steps(program, growing, *, most=1000):
    """The number of the steps of a shortest run whose last step spoils, or None."""
    told = closure_of(program, growing, most).soonest()
    return None if told is None else told[0]
