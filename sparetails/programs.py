"""Programs: functions with parameters, a body and a result."""
from sparetails.errors import Endless, Unknown, Wrong
from sparetails.kinds import is_address, is_listed, is_name
from sparetails.layouts import Layout
from sparetails.statements import own_names, renewed

MOST_PARAMETERS = 2


def _are_parameters(thing):
    if not is_listed(thing) or len(thing) > MOST_PARAMETERS:
        return False
    return all([is_name(name) for name in thing]) and len(set(thing)) == len(thing)


def is_function(thing):
    """Whether thing has the form of a function: (parameters, body, result), with any items in its body."""
    if not isinstance(thing, tuple) or len(thing) != 3:
        return False
    parameters, body, result = thing
    return _are_parameters(parameters) and is_listed(body) and is_name(result)


def _are_functions(thing):
    if not isinstance(thing, dict) or "main" not in thing:
        return False
    return all([is_name(name) and is_function(told) for name, told in thing.items()])


def _names_in(parameters, layout, result):
    found = [*parameters, result]
    for statement in layout.statements():
        found.extend(own_names(statement))
    return sorted(set(found))


def _calls_in(layout):
    return sorted(set([statement[2] for statement in layout.statements() if statement[0] == "call"]))


def _able(layouts, calls):
    """A dict with the functions that can end as its keys."""
    callers = {name: [] for name in layouts}
    for name in layouts:
        for called in calls[name]:
            callers[called].append(name)
    able = {}
    waiting = list(layouts)
    while waiting:
        name = waiting.pop()
        if name not in able and layouts[name].can_end(able):
            able[name] = True
            waiting.extend(callers[name])
    return able


class Program:
    """Functions, one of them main, that all can end; it never changes."""

    def __init__(self, functions):
        if not _are_functions(functions):
            raise Wrong(0)
        told = {name: functions[name] for name in sorted(list(functions))}
        counts = {name: len(told[name][0]) for name in told}
        self._parameters = {name: tuple(told[name][0]) for name in told}
        self._results = {name: told[name][2] for name in told}
        self._layouts = {name: Layout(name, told[name][1], counts) for name in told}
        self._outlines = {name: self._layouts[name].outline() for name in told}
        self._calls = {name: _calls_in(self._layouts[name]) for name in told}
        able = _able(self._layouts, self._calls)
        for name in told:
            if name not in able:
                raise Endless(name)
        self._names = {
            name: _names_in(self._parameters[name], self._layouts[name], self._results[name]) for name in told
        }

    def __eq__(self, other):
        return (
            isinstance(other, Program) and self._parameters == other._parameters
            and self._results == other._results and self._outlines == other._outlines
        )

    def _check(self, function):
        if not is_name(function) or function not in self._layouts:
            raise Unknown(function)

    def functions(self):
        """The dict from the names, ascending, to (parameters, body, result)."""
        return {
            name: (list(self._parameters[name]), renewed(self._layouts[name].body), self._results[name])
            for name in self._layouts
        }

    def parameters(self, function):
        """The list of the parameters of a function."""
        self._check(function)
        return list(self._parameters[function])

    def result(self, function):
        """The name that is the result of a function."""
        self._check(function)
        return self._results[function]

    def names(self, function):
        """The ascending list of all names of a function."""
        self._check(function)
        return list(self._names[function])

    def calls(self, function):
        """The ascending list of the functions that are called in a body."""
        self._check(function)
        return list(self._calls[function])

    def reached(self):
        """The ascending list of main and what it calls, itself or by others."""
        found = {"main": True}
        waiting = ["main"]
        while waiting:
            caller = waiting.pop()
            for name in self._calls[caller]:
                if name not in found:
                    found[name] = True
                    waiting.append(name)
        return sorted(list(found))

    def all_functions(self):
        """The ascending list of the names of all functions."""
        return list(self._layouts)

    def addresses(self, function):
        """The ascending list of the addresses in a function, its end too."""
        return self._layouts[function].addresses()

    def has_place(self, thing):
        """Whether thing, any value, is a place of the program."""
        if not isinstance(thing, tuple) or len(thing) != 2:
            return False
        function, address = thing
        if not is_name(function) or function not in self._layouts:
            return False
        return is_address(address) and address in self._layouts[function].spots

    def spot_at(self, place):
        """The Spot at a place: what the package looks at, and does not change."""
        function, address = place
        return self._layouts[function].spots[address]
