"""Orders: tuples of levels, the lowest first, each an ascending tuple of points."""

MOST_SIGNS = 8


def _is_point(thing):
    return isinstance(thing, str) and 1 <= len(thing) <= MOST_SIGNS


def _is_level(thing):
    if not isinstance(thing, tuple) or not thing or not all([_is_point(point) for point in thing]):
        return False
    return list(thing) == sorted(set(thing))


def is_order(thing):
    """Whether thing, any value, is an order."""
    if not isinstance(thing, tuple) or not all([_is_level(level) for level in thing]):
        return False
    points = points_of(thing)
    return len(set(points)) == len(points)


def points_of(order):
    """The ascending list of the points of an order."""
    return sorted([point for level in order for point in level])


def level_of(order, point):
    """The index of the level of a point, or None."""
    for at, level in enumerate(order):
        if point in level:
            return at
    return None


def compare(order, one, other):
    """Whether one stands lower than other (-1), as high (0) or higher (1); None if one does not stand there."""
    mine = level_of(order, one)
    its = level_of(order, other)
    if mine is None or its is None:
        return None
    if mine == its:
        return 0
    return -1 if mine < its else 1


def _without_empty(levels):
    return tuple([level for level in levels if level])


def only(order, points):
    """The order of those points that are in a list."""
    return _without_empty([tuple([point for point in level if point in points]) for level in order])


def lacking(order, points):
    """The order of those points that are not in a list."""
    return _without_empty([tuple([point for point in level if point not in points]) for level in order])


def renamed(order, names):
    """The order in which the points that are keys of a dict have other names, all at once."""
    return tuple([tuple(sorted(set([names.get(point, point) for point in level]))) for level in order])


def placed(order, point, place):
    """The order with a further point: at the level k for 2 * k + 1, below it, or above all, for 2 * k."""
    at = place // 2
    if place % 2 == 0:
        return (*order[:at], (point,), *order[at:])
    return (*order[:at], tuple(sorted([*order[at], point])), *order[at + 1:])


def _ties(order, other):
    """For each level of an order the tuple of its points that stand in the other order."""
    points = {point: True for point in points_of(other)}
    return [tuple([point for point in level if point in points]) for level in order]


def laid_over(one, other):
    """The ascending list of the orders of the points of both in which those of each stand as they do in it."""
    mine = _ties(one, other)
    its = _ties(other, one)
    # The orders of what is left of both from a level of each on: the last levels first.
    tails = {}
    for at in range(len(one), -1, -1):
        for by in range(len(other), -1, -1):
            found = [] if at < len(one) or by < len(other) else [()]
            if at < len(one) and not mine[at]:
                found.extend([(one[at], *tail) for tail in tails[(at + 1, by)]])
            if by < len(other) and not its[by]:
                found.extend([(other[by], *tail) for tail in tails[(at, by + 1)]])
            # What stands in both is where the same stands: such a level is never alone, nor one with another.
            if at < len(one) and by < len(other) and mine[at] == its[by]:
                level = tuple(sorted(set([*one[at], *other[by]])))
                found.extend([(level, *tail) for tail in tails[(at + 1, by + 1)]])
            tails[(at, by)] = found
    return sorted(tails[(0, 0)])
