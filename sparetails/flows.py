"""What is alive, and what is watched, ahead of a statement and at all places.

Here names tells the names of each key: for what is alive a key is a place, for what is watched a tuple (function,
behind, address), behind telling whether the result of the function is watched.
"""
from sparetails.statements import made, read


def _of_bodies(names, keys):
    found = []
    for key in keys:
        found.extend(names[key])
    return sorted(set(found))


def alive_ahead(program, names, place):
    """The ascending list of the names alive at a place, by those of the places behind it."""
    spot = program.spot_at(place)
    statement = spot.statement
    function = place[0]
    if statement is None:
        return [program.result(function)]
    if statement[0] in ("either", "loop"):
        return _of_bodies(names, [(function, address) for address in spot.leads_to()])
    v = made(statement)
    later = [name for name in names[(function, spot.after)] if name != v]
    return sorted(set([*later, *read(statement)]))


def watched_ahead(program, names, key):
    """The ascending list of the names watched at a key, by those of the keys behind it."""
    function, behind, address = key
    spot = program.spot_at((function, address))
    statement = spot.statement
    if statement is None:
        return [program.result(function)] if behind else []
    if statement[0] in ("either", "loop"):
        return _of_bodies(names, [(function, behind, to) for to in spot.leads_to()])
    v = made(statement)
    later = names[(function, behind, spot.after)]
    found = [name for name in later if name != v]
    if statement[0] == "call":
        found.extend(_watched_by_call(program, names, statement, v in later))
    elif v in later or statement[0] in ("look", "keep"):
        found.extend(read(statement))
    return sorted(set(found))


def _watched_by_call(program, names, statement, told):
    """The names passed to a call whose windows are watched in it; told whether its result is."""
    called = statement[2]
    inner = names[(called, told, (0,))]
    return [name for parameter, name in zip(program.parameters(called), statement[3]) if parameter in inner]


def _settled(program, keys, ahead):
    """The dict from the keys to the fewest names with which each has what stands ahead by the others."""
    names = {key: [] for key in keys}
    # Names come from behind, so the last places first.
    order = list(reversed(list(keys)))
    going = True
    while going:
        going = False
        for key in order:
            told = ahead(program, names, key)
            if told != names[key]:
                names[key] = told
                going = True
    return names


def watched_keys(program):
    """The ascending list of all tuples (function, behind, address)."""
    return [
        (function, behind, address)
        for function in program.all_functions() for behind in (False, True) for address in program.addresses(function)
    ]


def alive_names(program):
    """The dict from all places, ascending, to the names alive there."""
    places = [(function, address) for function in program.all_functions() for address in program.addresses(function)]
    return _settled(program, places, alive_ahead)


def watched_names(program):
    """The dict from all tuples (function, behind, address), ascending, to the names watched there."""
    return _settled(program, watched_keys(program), watched_ahead)
