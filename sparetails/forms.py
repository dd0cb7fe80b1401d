"""Whether a value has the form of a row of a program."""
from sparetails.kinds import is_address, is_name
from sparetails.orders import level_of, only, points_of
from sparetails.shapes import COMMON, PASSED, is_shape

OF_ENTRIES = ("+0", "+1", "=", "^")


def is_rowlike(thing):
    """Whether thing, any value, is a tuple (function, entry, address, shape), of whatever program."""
    if not isinstance(thing, tuple) or len(thing) != 4:
        return False
    function, entry, address, shape = thing
    if not isinstance(entry, tuple) or len(entry) != 2 or not is_shape(entry[0]) or not isinstance(entry[1], bool):
        return False
    return is_name(function) and is_address(address) and is_shape(shape)


def _is_highest(order, point):
    """Whether a point stands on the highest level of an order, or not at all."""
    return level_of(order, point) in (None, len(order) - 1)


def _are_passed(shape, many):
    """Whether a shape is that of an entry for so many parameters, if "=" stands highest, as it does in rows."""
    points = sorted([point for order in shape for point in points_of(order) if point not in ("=", "^")])
    if points != list(PASSED[:many]):
        return False
    return all([only(order, PASSED) != () for order in shape])


def _is_entry(program, function, entry):
    if function == "main":
        return entry == ((), False)
    return _are_passed(entry[0], len(program.parameters(function)))


def is_row(facts, thing):
    """Whether thing, any value, has the form of a row of a program; a call need not come to stand there."""
    if not is_rowlike(thing) or not facts.subject.has_place((thing[0], thing[2])):
        return False
    function, entry, address, shape = thing
    alive = facts.alive_at((function, address))
    points = [point for order in shape for point in points_of(order) if point not in (*PASSED, *COMMON)]
    if not _is_entry(facts.subject, function, entry) or sorted(points) != alive:
        return False
    if not all([only(order, [*alive, *PASSED]) != () and _is_highest(order, "=") for order in shape]):
        return False
    # What was passed is told by the entry, and "^" is of nothing else.
    told = [only(order, OF_ENTRIES) for order in shape if only(order, PASSED) or level_of(order, "^") is not None]
    return sorted(told) == list(entry[0])
