"""Ways from a place: the fewest steps to an end, a result or a look."""
from sparetails.errors import Unknown
from sparetails.goals import Costs, names_behind
from sparetails.places import check_place
from sparetails.statements import made


def _check(program, place, name):
    check_place(program, place)
    if name not in program.names(place[0]):
        raise Unknown(name)


def _goal(word, place, name):
    return (word, place[0], place[1], name)


def steps_to_end(program, place):
    """The fewest steps from a place to the end of its function."""
    check_place(program, place)
    goal = _goal("end", place, None)
    return Costs(program, goal).fewest(goal)


def steps_to_look(program, place, name):
    """The number of the steps of a shortest way to a look at what a name sees, or None."""
    _check(program, place, name)
    goal = _goal("look", place, name)
    return Costs(program, goal).fewest(goal)


def steps_to_result(program, place, name):
    """The number of the steps of a shortest way on which what a name sees becomes the result, or None."""
    _check(program, place, name)
    goal = _goal("result", place, name)
    return Costs(program, goal).fewest(goal)


def way_to_look(program, place, name):
    """A shortest way to a look at what a name sees, the list of its places, or None."""
    _check(program, place, name)
    goal = _goal("look", place, name)
    costs = Costs(program, goal)
    return None if costs.fewest(goal) is None else costs.way(goal)


class Trail:
    """A way as it goes: its calls, each as a tuple (place, names that are followed)."""

    def __init__(self, program, place, name):
        self._program = program
        self._calls = [(place, [name])]

    def can_look(self):
        """Whether the step at the last call's place is a look or a keep of a name that is followed."""
        place, followed = self._calls[-1]
        statement = self._program.spot_at(place).statement
        return statement is not None and statement[0] in ("look", "keep") and statement[1] in followed

    def goes_to(self, place):
        """Does the step at the last call's place; returns whether it can lead to a place."""
        here, followed = self._calls[-1]
        spot = self._program.spot_at(here)
        if spot.statement is None:
            return self._comes_back(place)
        if spot.statement[0] == "call":
            return self._calls_on(spot.statement, place)
        told = []
        for name in followed:
            told.extend(names_behind(spot.statement, name))
        self._calls[-1] = (place, told)
        return place in [(here[0], address) for address in spot.leads_to()]

    def _calls_on(self, statement, place):
        _, followed = self._calls[-1]
        parameters = self._program.parameters(statement[2])
        self._calls.append((place, [one for one, name in zip(parameters, statement[3]) if name in followed]))
        return place == (statement[2], (0,))

    def _comes_back(self, place):
        ended, inner = self._calls.pop()
        if not self._calls:
            return False
        here, followed = self._calls.pop()
        spot = self._program.spot_at(here)
        v = made(spot.statement)
        told = [name for name in followed if name != v]
        if self._program.result(ended[0]) in inner:
            told.append(v)
        self._calls.append((place, told))
        return place == (here[0], spot.after)


def is_way_to_look(program, place, name, thing):
    """Whether thing, any value, is a way from a place whose last step is a look at what a name sees."""
    _check(program, place, name)
    if not isinstance(thing, list) or not thing:
        return False
    if not all([program.has_place(one) for one in thing]) or thing[0] != place:
        return False
    trail = Trail(program, place, name)
    for one in thing[1:]:
        if not trail.goes_to(one):
            return False
    return trail.can_look()
