"""Statements: which values are statements, and what stands in one."""
from sparetails.kinds import is_listed, is_name

NAMES_IN = {
    "new": 1, "set": 1, "keep": 1, "look": 1,
    "take": 2, "cut": 2, "put": 2, "copy": 2, "copycut": 2, "copyput": 2,
}
MAKING = ("new", "take", "cut", "put", "copy", "copycut", "copyput", "call")
COPYING = {"take": "copy", "cut": "copycut", "put": "copyput"}
SHARING = {"copy": "take", "copycut": "cut", "copyput": "put"}
MOST_PASSED = 2


def _are_names(things):
    return all([is_name(thing) for thing in things])


def _are_passed(thing):
    return is_listed(thing) and len(thing) <= MOST_PASSED and _are_names(thing)


def _are_bodies(thing):
    return is_listed(thing) and len(thing) > 0 and all([is_listed(body) for body in thing])


def is_head(thing):
    """Whether thing would be a statement if statements alone stood in its bodies."""
    if not isinstance(thing, tuple) or len(thing) < 2 or not isinstance(thing[0], str):
        return False
    word = thing[0]
    if word in NAMES_IN:
        return len(thing) == 1 + NAMES_IN[word] and _are_names(thing[1:])
    if word == "call":
        return len(thing) == 4 and _are_names(thing[1:3]) and _are_passed(thing[3])
    if word == "loop":
        return len(thing) == 2 and is_listed(thing[1])
    return word == "either" and len(thing) == 2 and _are_bodies(thing[1])


def is_statement(thing):
    """Whether thing, any value, is a statement."""
    # No recursion here or below: bodies may stand within very many others.
    waiting = [thing]
    while waiting:
        item = waiting.pop()
        if not is_head(item):
            return False
        for body in inner_bodies(item):
            waiting.extend(body)
    return True


def inner_bodies(statement):
    """The list of the bodies of a statement: they themselves, not copies."""
    if statement[0] == "either":
        return list(statement[1])
    if statement[0] == "loop":
        return [statement[1]]
    return []


def bodies(statement):
    """The list of the bodies of a statement, as new lists."""
    return [list(body) for body in inner_bodies(statement)]


def made(statement):
    """The name that becomes another window by a statement, or None."""
    return statement[1] if statement[0] in MAKING else None


def read(statement):
    """The ascending list of the names whose windows a statement uses."""
    word = statement[0]
    if word == "call":
        return sorted(set(statement[3]))
    if word in ("set", "keep", "look"):
        return [statement[1]]
    return [statement[2]] if NAMES_IN.get(word) == 2 else []


def own_names(statement):
    """The names in a statement that do not stand in its bodies."""
    if statement[0] == "call":
        return [statement[1], *statement[3]]
    return list(statement[1:]) if statement[0] in NAMES_IN else []


def named(statement):
    """The ascending list of all names in a statement, without functions."""
    found = []
    waiting = [statement]
    while waiting:
        item = waiting.pop()
        found.extend(own_names(item))
        for body in inner_bodies(item):
            waiting.extend(body)
    return sorted(set(found))


def copying(statement):
    """The statement that copies where this one shares, or None."""
    word = COPYING.get(statement[0])
    return None if word is None else (word, statement[1], statement[2])


def sharing(statement):
    """The statement that shares where this one copies, or None."""
    word = SHARING.get(statement[0])
    return None if word is None else (word, statement[1], statement[2])


def head_of(statement):
    """What is equal for statements that differ in what stands in their bodies alone; how much this is counts."""
    inner = inner_bodies(statement)
    return (statement[0], *[len(body) for body in inner]) if inner else statement


def emptied(statement):
    """The statement with new empty lists in the place of its bodies."""
    if statement[0] == "either":
        return ("either", [[] for _ in statement[1]])
    if statement[0] == "loop":
        return ("loop", [])
    if statement[0] == "call":
        return ("call", statement[1], statement[2], tuple(statement[3]))
    return tuple(statement)


def renewed(body):
    """A body with the same statements, in which each list is new."""
    told = []
    waiting = [(body, told)]
    while waiting:
        elder, newer = waiting.pop()
        for item in elder:
            fresh = emptied(item)
            newer.append(fresh)
            waiting.extend(list(zip(inner_bodies(item), inner_bodies(fresh))))
    return told
