"""A run of a program, done step by step."""
from sparetails.errors import NoArray, Nothing, Unfit, Unknown, Wrong
from sparetails.kinds import is_growing, is_integer, is_listed, is_name, is_number
from sparetails.programs import Program
from sparetails.rows import marks_of
from sparetails.states import MOST_MARKS, State


def _is_within(bounds, thing):
    least, greatest = bounds
    return is_integer(thing) and least <= thing and (greatest is None or thing <= greatest)


def _are_begins(thing, many):
    return is_listed(thing) and len(thing) == many and all([_is_within((1, MOST_MARKS), one) for one in thing])


def _check(bounds, data):
    """Raises Unfit if data do not begin with what the bounds allow; there may be more of them."""
    for at, told in enumerate(bounds):
        if at >= len(data) or not _is_within(told, data[at]):
            raise Unfit(at)


def _windows(call):
    return {name: window for name, (window, _) in call.holds.items()}


class Machine:
    """A run, its steps so far, and what stands there behind them."""

    def __init__(self, program, growing, begins):
        if not isinstance(program, Program):
            raise Wrong(0)
        if not is_growing(growing):
            raise Wrong(1)
        if not _are_begins(begins, len(program.names("main"))):
            raise Wrong(2)
        self._program = program
        self._begins = tuple(begins)
        self._state = State(program, growing)
        self._state.begin("main", {}, self._begins)
        self._data = []
        self._moments = []

    def __len__(self):
        return len(self._data)

    def __eq__(self, other):
        # What run() tells, but without a call: by its name that would be a call of every method that is called run.
        return (
            isinstance(other, Machine) and self._program == other._program
            and self._state.growing == other._state.growing
            and self._begins == other._begins and self._data == other._data
        )

    def _fitting(self, data):
        """The data of the next step as a tuple."""
        if not is_listed(data):
            raise Unfit(0)
        told = tuple(data)
        bounds = self._state.bounds()
        _check(bounds, told)
        room = self._state.least_room(told[0]) if bounds else None
        if room is not None:
            bounds = [*bounds, (room, None)]
            _check(bounds, told)
        if len(told) > len(bounds):
            raise Unfit(len(bounds))
        return told

    def step(self, data):
        """Does the statement at the place of the last call; returns the marks of a look."""
        if self._state.is_over():
            raise Nothing()
        told = self._fitting(data)
        self._moments.append(self._state.moment())
        self._data.append(told)
        return self._state.do(told)

    def back(self):
        """Takes the last step back and returns its data."""
        if not self._data:
            raise Nothing()
        self._state.back_to(self._moments.pop())
        return self._data.pop()

    def here(self):
        """The place of the last call."""
        return self._state.stack[-1].where()

    def is_over(self):
        """Whether main's call stands at its end."""
        return self._state.is_over()

    def wanted(self):
        """The tuples (least, greatest) of the data of the next step; None if the run is over."""
        return None if self._state.is_over() else self._state.bounds()

    def names(self):
        """The dict from the names of the last call to their windows."""
        return _windows(self._state.stack[-1])

    def calls(self):
        """The list of the tuples (place, dict of windows) of all calls, main's first."""
        return [(call.where(), _windows(call)) for call in self._state.stack]

    def store(self):
        """The list of the windows in the store."""
        return [window for window, _ in self._state.kept]

    def looks(self):
        """The list of the tuples (place, marks, plain) of all looks so far."""
        told = [(place, list(marks), list(plain)) for place, marks, plain in self._state.shown]
        if self._state.is_over():
            memory = self._state.memory
            told.extend([(None, memory.seen(window), marks_of(plain)) for window, plain in self._state.kept])
        return told

    def _check_array(self, array):
        if not is_number(self._state.memory.many_arrays(), array):
            raise NoArray(array)

    def room_of(self, array):
        """The room of an array."""
        self._check_array(array)
        return self._state.memory.size_of(array)

    def cells_of(self, array):
        """The list of the marks in the cells of an array that were written."""
        self._check_array(array)
        return self._state.memory.cells_of(array)

    def _held(self, name):
        holds = self._state.stack[-1].holds
        if not is_name(name) or name not in holds:
            raise Unknown(name)
        return holds[name]

    def marks(self, name):
        """The list of what a name of the last call sees."""
        window, _ = self._held(name)
        return self._state.memory.seen(window)

    def plain(self, name):
        """The list of what a name of the last call has by the plain meaning."""
        _, told = self._held(name)
        return marks_of(told)

    def run(self):
        """The tuple (growing, begins, data) of the steps done."""
        return (self._state.growing, self._begins, tuple(self._data))

    def copied(self):
        """A Machine that stands there, too, and goes on by itself."""
        told = Machine(self._program, self._state.growing, self._begins)
        told._state = self._state.copied()
        told._data = list(self._data)
        told._moments = list(self._moments)
        return told
