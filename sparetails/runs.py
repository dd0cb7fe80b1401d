"""Runs of a program: what they show, and the places along which they go."""
from sparetails.errors import Broken, Nothing, Unfit, Wrong
from sparetails.kinds import is_listed
from sparetails.machine import Machine


def _do(machine, at, data):
    """Does the step with the number at, or tells that it cannot be done."""
    try:
        machine.step(data)
    except (Nothing, Unfit):
        raise Broken(at) from None


def played(program, run):
    """The Machine behind a run."""
    growing, begins, data = run
    machine = Machine(program, growing, begins)
    for at, told in enumerate(data):
        _do(machine, at, told)
    return machine


def is_run(program, thing):
    """Whether thing, any value, is a run of the program, ended or not."""
    if not isinstance(thing, tuple) or len(thing) != 3 or not is_listed(thing[2]):
        return False
    try:
        played(program, thing)
    except (Wrong, Broken):
        return False
    return True


def looks(program, run):
    """The list of the tuples (place, marks, plain) of all looks of a run."""
    return played(program, run).looks()


def wrong_look(program, run):
    """The index of the first look that is not right, or None."""
    for at, (_, marks, plain) in enumerate(looks(program, run)):
        if marks != plain:
            return at
    return None


def walk(program, run):
    """Generates the places at which the steps are done, and the place behind the last one."""
    growing, begins, data = run
    machine = Machine(program, growing, begins)
    steps = list(data)
    for at, told in enumerate(steps):
        yield machine.here()
        _do(machine, at, told)
    yield machine.here()


def shared(program, run):
    """The ascending list of the lists of names of the last call that have one array."""
    names_on = {}
    for name, (array, _) in played(program, run).names().items():
        names_on.setdefault(array, []).append(name)
    return sorted([names for names in names_on.values() if len(names) > 1])
