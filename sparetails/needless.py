"""Statements that give a name a window for nothing, and programs without them."""
from sparetails.errors import NoPlace
from sparetails.flows import alive_names
from sparetails.places import all_places
from sparetails.programs import Program
from sparetails.statements import emptied, inner_bodies, made

# A put may write into cells that were there, and a call may do anything.
HARMLESS = ("new", "take", "cut", "copy", "copycut", "copyput")


def needless(program):
    """The ascending list of the places of the needless statements of all functions."""
    alive = alive_names(program)
    found = []
    for place in all_places(program):
        spot = program.spot_at(place)
        if spot.statement is not None and spot.statement[0] in HARMLESS:
            if made(spot.statement) not in alive[(place[0], spot.after)]:
                found.append(place)
    return found


def _thinned(body, out):
    """A copy of a body without the statements at the addresses that are keys of out."""
    told = []
    waiting = [((), body, told)]
    while waiting:
        stem, elder, newer = waiting.pop()
        for at, item in enumerate(elder):
            address = stem + (at,)
            if address not in out:
                fresh = emptied(item)
                newer.append(fresh)
                pairs = list(zip(inner_bodies(item), inner_bodies(fresh)))
                waiting.extend([(address + (b,), *pair) for b, pair in enumerate(pairs)])
    return told


def left_out(program, places):
    """The Program in which the statements at different places are left out."""
    out = {function: {} for function in program.all_functions()}
    for place in places:
        if not program.has_place(place) or program.spot_at(place).statement is None:
            raise NoPlace(place)
        out[place[0]][place[1]] = True
    return Program({
        name: (parameters, _thinned(body, out[name]), result)
        for name, (parameters, body, result) in program.functions().items()
    })


def lean(program):
    """The Program from which needless statements are left out until there is none."""
    told = left_out(program, [])
    places = needless(told)
    while places:
        told = left_out(told, places)
        places = needless(told)
    return told
