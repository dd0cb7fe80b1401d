"""Which names are alive at a place, and which are watched there."""
from sparetails.flows import alive_names, watched_ahead, watched_keys, watched_names
from sparetails.places import check_place


def alive(program, place):
    """The ascending list of the names alive at a place."""
    check_place(program, place)
    return alive_names(program)[place]


def watched(program, place, behind):
    """The ascending list of the names watched at a place; behind tells whether the result is watched."""
    check_place(program, place)
    return watched_names(program)[(place[0], behind, place[1])]


def passed(program, function, behind):
    """The ascending list of the indexes of the parameters that are watched at the beginning of a function."""
    parameters = program.parameters(function)
    names = watched_names(program)[(function, behind, (0,))]
    return [at for at, name in enumerate(parameters) if name in names]


def watched_rows(program):
    """The ascending list of the tuples (function, behind, address, names) of all places."""
    return [(*key, tuple(names)) for key, names in watched_names(program).items()]


def _is_watched_row(program, thing):
    """Whether thing has the form of a row; its names may be more than are watched."""
    if not isinstance(thing, tuple) or len(thing) != 4:
        return False
    function, behind, address, names = thing
    if not isinstance(behind, bool) or not program.has_place((function, address)) or not isinstance(names, tuple):
        return False
    known = program.names(function)
    return all([name in known for name in names]) and list(names) == sorted(set(names))


def are_watched_rows(program, thing):
    """Whether thing, any value, is a closed list of rows, just one for each function, truth and place."""
    if not isinstance(thing, list) or not all([_is_watched_row(program, row) for row in thing]):
        return False
    names = {(function, behind, address): told for function, behind, address, told in thing}
    keys = watched_keys(program)
    if len(thing) != len(keys) or len(names) != len(keys):
        return False
    return all([name in names[key] for key in keys for name in watched_ahead(program, names, key)])
