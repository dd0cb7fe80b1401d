"""What steps other than calls make of a row, and what they spoil."""
from sparetails.orders import compare, lacking, level_of, placed, points_of, renamed
from sparetails.shapes import array_of, shape_of

# Stands for the new window of a name as long as the elder one is there; no name of a program is called so.
NEWER = "*"
OUTSIDE = ("^", "!")


def _order_of(shape, name):
    return shape[array_of(shape, name)]


def alone(shape, name, points):
    """The shape in which a name has an order of its own, with further points on its level."""
    rest = [lacking(order, [name]) for order in shape]
    return shape_of([*rest, (tuple(sorted([name, *points])),)])


def placed_by(shape, name, other, place):
    """The shape in which a name stands in the order of another point, at this place of it as it was."""
    at = array_of(shape, other)
    orders = [*shape[:at], placed(shape[at], NEWER, place), *shape[at + 1:]]
    return shape_of([renamed(lacking(order, [name]), {NEWER: name}) for order in orders])


def moved_shape(growing, shape, v):
    """The shape behind a put of v that moves, or a copyput."""
    # With spare room a new array may have any room.
    return alone(shape, v, ["="] if growing == "exact" else [])


def level_place(shape, point):
    """The place of the level of a point in its order."""
    return 2 * level_of(_order_of(shape, point), point) + 1


def _kept_shape(shape, name):
    """The shape in which "!" is no lower than a name."""
    at = array_of(shape, name)
    if compare(shape[at], "!", name) in (0, 1):
        return shape
    order = lacking(shape[at], ["!"])
    raised = placed(order, "!", 2 * level_of(order, name) + 1)
    return shape_of([*shape[:at], raised, *shape[at + 1:]])


def _places_above(order, name):
    """The places above a name, but not above the room: none for a name that sees all cells."""
    room = level_of(order, "=")
    highest = 2 * len(order) if room is None else 2 * room + 1
    return list(range(2 * level_of(order, name) + 2, highest + 1))


def _victims(facts, row, name, lowest):
    """The points in the order of a name that are watched behind the step, and not lower than a level."""
    later = [*facts.watched_behind(row), *OUTSIDE]
    order = _order_of(row[3], name)
    return [point for point in points_of(order) if point in later and level_of(order, point) >= lowest]


def _level(shape, name):
    return level_of(_order_of(shape, name), name)


def points_spoiled(facts, row):
    """The ascending list of the points that some step of a row spoils."""
    statement = facts.statement_of(row)
    shape = row[3]
    if statement is not None and statement[0] == "put":
        # A put that cannot stay is at the room, so that nothing is higher.
        return _victims(facts, row, statement[2], _level(shape, statement[2]) + 1)
    if statement is not None and statement[0] == "set":
        return _victims(facts, row, statement[1], 0)
    return []


def _first_of(points):
    """Of spoiled points the least name, or else "!", or else "^"."""
    names = [point for point in points if point not in OUTSIDE]
    return names[0] if names else points[0]


def first_victims(facts, row):
    """The list of what steps of a row spoil, of each step the first victim; some may stand twice."""
    if not points_spoiled(facts, row):
        return []
    word, v = facts.statement_of(row)[:2]
    if word == "put":
        return [_first_of(points_spoiled(facts, row))]
    # A set may write into a cell that is seen from any level on, up to the one of v.
    found = [_victims(facts, row, v, lowest) for lowest in range(_level(row[3], v) + 1)]
    return [_first_of(points) for points in found if points]


def _stayed(facts, row, v, w):
    """The shapes behind a put that stays and spoils nothing."""
    shape = row[3]
    places = [] if points_spoiled(facts, row) else _places_above(_order_of(shape, w), w)
    return [placed_by(shape, v, w, place) for place in places]


def _made(facts, growing, row):
    """The shapes behind a statement that gives a name a window."""
    shape = row[3]
    statement = facts.statement_of(row)
    word, v = statement[:2]
    if word in ("new", "copy", "copycut"):
        return [alone(shape, v, ["="])]
    w = statement[2]
    if word == "take":
        return [placed_by(shape, v, w, level_place(shape, w))]
    if word == "cut":
        return [placed_by(shape, v, w, place) for place in range(level_place(shape, w) + 1)]
    moved = moved_shape(growing, shape, v)
    return [moved] if word == "copyput" else [moved, *_stayed(facts, row, v, w)]


def _used(facts, row):
    """The shapes behind a set, a keep or a look that spoils nothing."""
    word, v = facts.statement_of(row)
    shape = row[3]
    if word == "keep":
        return [_kept_shape(shape, v)]
    # The last cell that v sees is seen by nothing that is lower.
    spoils = word == "set" and _victims(facts, row, v, _level(shape, v))
    return [] if spoils else [shape]


def rows_after(facts, growing, row):
    """The ascending list of the rows to which a step other than a call leads that spoils nothing."""
    spot = facts.spot_of(row)
    statement = spot.statement
    if statement is None or statement[0] == "call":
        return []
    if statement[0] in ("either", "loop"):
        return facts.rows_at(row, spot.leads_to(), [row[3]])
    used = statement[0] in ("set", "keep", "look")
    return facts.rows_at(row, [spot.after], _used(facts, row) if used else _made(facts, growing, row))
