"""Goals of ways, and the fewest steps to them.

A goal is a tuple (word, function, address, name): from the address on, "end" is to come to the end of the function,
"result" to come there with the name of the result followed, "look" to look at what is followed, where at first just
the name is. What is followed goes on as single threads, one name after another: so no goal needs a set of names.
"step" is the step that is done at the address. Each goal is reached by doing all goals of one of its choices, in turn.
"""
from sparetails.statements import made, read


def _step(place):
    return ("step", place[0], place[1], None)


def _through(program, statement, goal, behind):
    """The goals from a call on: through the called function by a goal of it, its end step, and what is behind."""
    called = statement[2]
    end = program.addresses(called)[-1]
    return [goal, ("step", called, end, None), behind]


def _call_choices(program, goal, spot):
    """What may come behind the step of a call."""
    word, function, _, name = goal
    statement = spot.statement
    called = statement[2]
    told = []
    if name != statement[1]:
        past = ("end", called, (0,), None)
        told.append(_through(program, statement, past, (word, function, spot.after, name)))
    for parameter, passed in zip(program.parameters(called), statement[3]):
        if passed == name:
            back = ("result", called, (0,), parameter)
            told.append(_through(program, statement, back, (word, function, spot.after, statement[1])))
            if word == "look":
                told.append([("look", called, (0,), parameter)])
    return told


def names_behind(statement, name):
    """The names that are followed behind a statement other than a call, if one was ahead of it."""
    v = made(statement)
    told = [] if name == v else [name]
    if v is not None and name in read(statement):
        told.append(v)
    return told


def choices(program, goal):
    """The list of the choices of a goal, each a list of goals that are to be done in turn."""
    word, function, address, name = goal
    place = (function, address)
    spot = program.spot_at(place)
    statement = spot.statement
    if statement is None:
        ended = word == "end" or (word == "result" and name == program.result(function))
        return [[]] if ended else []
    if statement[0] == "call":
        told = _call_choices(program, goal, spot)
    elif word == "look" and statement in (("look", name), ("keep", name)):
        told = [[]]
    else:
        names = [None] if name is None else names_behind(statement, name)
        told = [[(word, function, to, one)] for to in spot.leads_to() for one in names]
    return [[_step(place), *rest] for rest in told]


class Costs:
    """The fewest steps to a goal, and to all that stand in its choices."""

    def __init__(self, program, goal):
        self._choices = {}
        waiting = [goal]
        while waiting:
            one = waiting.pop()
            if one not in self._choices and one[0] != "step":
                self._choices[one] = choices(program, one)
                for choice in self._choices[one]:
                    waiting.extend(choice)
        self._fewest = {}
        self._settle()

    def _settle(self):
        """Finds fewer steps for goals until there are no fewer any more."""
        # Those found last lie nearest to where ways lead.
        order = list(reversed(list(self._choices)))
        going = True
        while going:
            going = False
            for goal in order:
                costs = [cost for cost in self._costs_of(goal) if cost is not None]
                if costs and (goal not in self._fewest or min(costs) < self._fewest[goal]):
                    self._fewest[goal] = min(costs)
                    going = True

    def _costs_of(self, goal):
        """The list of the steps that each choice of a goal takes, or None for them."""
        return [self._cost_of(choice) for choice in self._choices[goal]]

    def _cost_of(self, choice):
        costs = [self.fewest(goal) for goal in choice]
        return None if None in costs else sum(costs)

    def fewest(self, goal):
        """The fewest steps to a goal, or None if it is not reached."""
        return 1 if goal[0] == "step" else self._fewest.get(goal)

    def way(self, goal):
        """The list of the places of the steps of a shortest way to a goal that is reached."""
        told = []
        waiting = [goal]
        while waiting:
            one = waiting.pop()
            if one[0] == "step":
                told.append((one[1], one[2]))
            else:
                at = self._costs_of(one).index(self._fewest[one])
                waiting.extend(list(reversed(list(self._choices[one][at]))))
        return told
