"""What is passed to calls and comes back from them: entries, their begins, and the rows behind their ends."""
from sparetails.moves import OUTSIDE, alone, level_place, placed_by
from sparetails.orders import compare, lacking, laid_over, level_of, only, placed, renamed
from sparetails.shapes import COMMON, PASSED, array_of, kept_points, shape_of

# What a called function knows as "+0", "+1", "^" and "!" is called so among the points of its caller.
TIES = {"+0": "*0", "+1": "*1", "^": "*^"}
TYING = ("*0", "*1", "*^")
STORED = "*!"


def first_row(facts, function, entry):
    """The row with which a call with an entry begins."""
    program = facts.subject
    parameters = [] if function == "main" else program.parameters(function)
    shape = entry[0]
    for point, name in zip(PASSED, parameters):
        shape = placed_by(shape, name, point, level_place(shape, point))
    for name in program.names(function):
        if name not in parameters:
            shape = alone(shape, name, ["="])
    return (function, entry, (0,), kept_points(shape, facts.alive_at((function, (0,)))))


def passed_in(order, names):
    """The points "+0", "+1" of those passed names that stand in an order."""
    return [point for point, name in zip(PASSED, names) if level_of(order, name) is not None]


def _tied(order, names, later):
    """The order with the points that tie it to that of a called function; later has the names watched outside of it."""
    heights = [level_of(order, point) for point in [*later, *OUTSIDE]]
    highest = max([height for height in heights if height is not None], default=None)
    told = order if highest is None else placed(order, TIES["^"], 2 * highest + 1)
    for point, name in zip(PASSED, names):
        level = level_of(order, name)
        if level is not None:
            told = placed(told, TIES[point], 2 * level + 1)
    return told


def call_of(facts, row):
    """The tuple (function, entry) of the call ahead of which a row is."""
    _, _, function, names = facts.statement_of(row)
    later = facts.watched_behind(row)
    inside = {tie: point for point, tie in TIES.items()}
    orders = [
        renamed(only(_tied(order, names, later), ["=", *TYING]), inside)
        for order in row[3] if passed_in(order, names)
    ]
    return (function, (shape_of(orders), facts.is_made_watched(row)))


def come_back(order):
    """A laid over order with the higher one of both marks of the store, and without what tied it."""
    lower = "!" if compare(order, "!", STORED) == -1 else STORED
    both = compare(order, "!", STORED) is not None
    return renamed(lacking(order, [*TYING, lower] if both else TYING), {STORED: "!"})


def laid_orders(facts, row, end, order):
    """The orders, still with what ties them, of an array with passed windows behind a call and an end row of it."""
    _, v, called, names = facts.statement_of(row)
    inner = end[3][array_of(end[3], passed_in(order, names)[0])]
    alive = facts.alive_at((row[0], facts.spot_of(row).after))
    # The elder window of v is gone; what is not kept would only make more orders that become the same ones.
    kept = [name for name in alive if name != v]
    outer = only(_tied(order, names, facts.watched_behind(row)), [*kept, *PASSED, *COMMON, *TYING])
    ended = renamed(inner, {**dict(TIES), "!": STORED, facts.subject.result(called): v})
    return laid_over(outer, ended if v in alive else lacking(ended, [v]))


def fresh_orders(facts, row, end):
    """The orders of arrays that came to be in a call, as they stand behind it, by an end row of it."""
    _, v, called, _ = facts.statement_of(row)
    return [renamed(order, {facts.subject.result(called): v}) for order in end[3] if not only(order, PASSED)]


def rows_behind(facts, row, end):
    """The ascending list of the rows behind a call to which an end row of the called function leads."""
    names = facts.statement_of(row)[3]
    shapes = [fresh_orders(facts, row, end)]
    for order in row[3]:
        told = [order]
        if passed_in(order, names):
            told = sorted(set([come_back(one) for one in laid_orders(facts, row, end, order)]))
        shapes = [[*shape, one] for shape in shapes for one in told]
    return facts.rows_at(row, [facts.spot_of(row).after], [shape_of(shape) for shape in shapes])


def _with_outside(orders):
    """The orders, and these with "^" at each place of them."""
    return [*orders, *[placed(order, "^", at) for order in orders for at in range(2 * len(order) + 1)]]


def _with_room(orders):
    """The orders, and these with "=" on their highest level, or above it."""
    told = list(orders)
    for order in orders:
        many = 2 * len(order)
        told.extend([placed(order, "=", many - 1), placed(order, "=", many)])
    return told


def _all_orders(orders):
    return _with_room(_with_outside(orders))


def entries_of(many):
    """The ascending list of all entries for so many parameters."""
    shapes = [()]
    for point in PASSED[:many]:
        shapes = [shape_of([*shape, order]) for shape in shapes for order in _all_orders([((point,),)])]
    if many == 2:
        both = [placed((("+0",),), "+1", at) for at in range(3)]
        shapes.extend([(order,) for order in _all_orders(both)])
    return sorted([(shape, told) for shape in shapes for told in (False, True)])
