"""Shapes: ascending tuples of the orders of several arrays."""
from sparetails.orders import compare, is_order, level_of, only, points_of

PASSED = ("+0", "+1")
# What may stand in several orders of a shape.
COMMON = ("=", "^", "!")


def shape_of(orders):
    """The shape of a list of orders, without those that are empty."""
    return tuple(sorted([order for order in orders if order]))


def is_shape(thing):
    """Whether thing, any value, is a shape."""
    if not isinstance(thing, tuple) or not all([is_order(order) and len(order) > 0 for order in thing]):
        return False
    points = [point for order in thing for point in points_of(order) if point not in COMMON]
    return len(set(points)) == len(points) and list(thing) == sorted(list(thing))


def array_of(shape, point):
    """The index of the first order in which a point stands, or None."""
    for at, order in enumerate(shape):
        if level_of(order, point) is not None:
            return at
    return None


def stands(shape, one, other):
    """How two points stand in the order in which both do, as compare tells it, or None if there is none."""
    for order in shape:
        told = compare(order, one, other)
        if told is not None:
            return told
    return None


def share(shape, one, other):
    """Whether two points that are names stand in one order."""
    return stands(shape, one, other) is not None


def kept_points(shape, names):
    """The shape with the names of a list alone, and with what stands beside them, or beside what was passed."""
    holding = [*names, *PASSED]
    points = [*holding, *COMMON]
    return shape_of([only(order, points) for order in shape if only(order, holding)])
