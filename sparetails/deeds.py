"""Deeds: which values are deeds, and what they make of a program."""
from sparetails.edits import body_around
from sparetails.errors import Refused
from sparetails.kinds import is_integer, is_name
from sparetails.places import all_places
from sparetails.programs import Program, is_function
from sparetails.statements import copying, head_of, is_statement, renewed, sharing

WITH_STATEMENT = ("in", "turn")
WITHOUT_STATEMENT = ("out", "copy", "share")


def _is_address(thing):
    return isinstance(thing, tuple) and len(thing) > 0 and all([is_integer(at) and at >= 0 for at in thing])


def is_deed(thing):
    """Whether thing, any value, is a deed."""
    if not isinstance(thing, tuple) or len(thing) < 2 or not isinstance(thing[0], str) or not is_name(thing[1]):
        return False
    word = thing[0]
    if word in WITH_STATEMENT:
        return len(thing) == 4 and _is_address(thing[2]) and is_statement(thing[3])
    if word in WITHOUT_STATEMENT:
        return len(thing) == 3 and _is_address(thing[2])
    if word == "function":
        return len(thing) == 3 and is_function(thing[2]) and all([is_statement(item) for item in thing[2][1]])
    return word == "gone" and len(thing) == 2


def renewed_deed(deed):
    """The deed with new lists, in the form in which a program tells its statements and functions."""
    if deed[0] in WITH_STATEMENT:
        return (*deed[:3], renewed([deed[3]])[0])
    if deed[0] == "function":
        parameters, body, result = deed[2]
        return (*deed[:2], (list(parameters), renewed(body), result))
    return deed


def _exchanged(deed, functions):
    """The functions of a dict with another one, or without one."""
    word, name = deed[0], deed[1]
    if word == "function":
        return {**functions, name: deed[2]}
    if name not in functions:
        raise Refused(deed)
    return {other: told for other, told in functions.items() if other != name}


def _turned(deed, statement):
    """The list of what comes in the place of a statement."""
    word = deed[0]
    if word == "out":
        return []
    if word == "turn":
        return [deed[3]]
    told = copying(statement) if word == "copy" else sharing(statement)
    if told is None:
        raise Refused(deed)
    return [told]


def _edit(deed, functions):
    """Does a deed with the bodies in a dict of functions."""
    word, name, address = deed[:3]
    body = body_around(functions[name][1], address) if name in functions else None
    if body is None or address[-1] > len(body):
        raise Refused(deed)
    at = address[-1]
    if word == "in":
        body.insert(at, deed[3])
        return
    if at == len(body):
        raise Refused(deed)
    body[at:at + 1] = _turned(deed, body[at])


def done(program, deed):
    """The Program that a deed makes of one."""
    functions = program.functions()
    if deed[0] in ("function", "gone"):
        return Program(_exchanged(deed, functions))
    _edit(deed, functions)
    return Program(functions)


def _is_same(elder, newer, place):
    """Whether a place of a newer program is one of the elder one, and but for its bodies the same stands there."""
    if not elder.has_place(place):
        return False
    one, other = elder.spot_at(place).statement, newer.spot_at(place).statement
    if one is None or other is None:
        return one is None and other is None
    return head_of(one) == head_of(other)


def changed_places(elder, newer):
    """The ascending list of the places of a newer program at which the elder one has another statement, or no place."""
    told = {}
    # From the last place on, inner ones first: what has another one in it is another one.
    for place in reversed(list(all_places(newer))):
        function, address = place
        if not _is_same(elder, newer, place):
            told[place] = True
        if place in told and len(address) > 1:
            told[(function, address[:-2])] = True
    return sorted(list(told))
