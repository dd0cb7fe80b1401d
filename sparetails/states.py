"""What a run holds at a moment, and what its statements do with it."""
from sparetails.memory import Memory
from sparetails.rows import changed, lengthened, marks_of, row_of, shortened

MOST_MARKS = 1000


class Call:
    """A call as it stands: each name holds a tuple (window, plain), plain its row by the plain meaning.

    Calls, and what they hold, never change: a step that is taken back finds them.
    """

    def __init__(self, function, address, holds):
        self.function = function
        self.address = address
        self.holds = holds

    def where(self):
        """The place at which the call stands."""
        return (self.function, self.address)

    def gone_to(self, address):
        """The call, standing at another address."""
        return Call(self.function, address, self.holds)

    def given(self, name, held):
        """The call, with another window and row for a name."""
        return Call(self.function, self.address, {**self.holds, name: held})


def _fresh(memory, many):
    marks = memory.new_marks(many)
    return (memory.add(marks, many), row_of(marks))


def _new(memory, held, data):
    return _fresh(memory, data[0])


def _take(memory, held, data):
    return held


def _cut(memory, held, data):
    window, plain = held
    return ((window[0], data[0]), shortened(plain, data[0]))


def _copy(memory, held, data):
    window, plain = held
    return (memory.add(memory.seen(window), window[1]), plain)


def _copycut(memory, held, data):
    return _copy(memory, _cut(memory, held, data), data)


def _moved(memory, held, data):
    window, plain = held
    marks = memory.new_marks(data[0])
    seen = memory.seen(window) + marks
    return (memory.add(seen, data[1] if len(data) == 2 else len(seen)), lengthened(plain, marks))


def _put(memory, held, data):
    window, plain = held
    array, length = window
    needed = length + data[0]
    if needed > memory.size_of(array):
        return _moved(memory, held, data)
    marks = memory.new_marks(data[0])
    memory.write(array, length, marks)
    return ((array, needed), lengthened(plain, marks))


MAKERS = {
    "new": _new, "take": _take, "cut": _cut, "put": _put, "copy": _copy, "copycut": _copycut, "copyput": _moved,
}


class State:
    """The calls, the arrays, the store and the looks of a run."""

    def __init__(self, program, growing):
        self._program = program
        self.growing = growing
        self.memory = Memory()
        self.stack = []
        self.kept = []
        self.shown = []

    def copied(self):
        """A State that holds the same and goes on by itself."""
        told = State(self._program, self.growing)
        told.memory = self.memory.copied()
        told.stack = list(self.stack)
        told.kept = list(self.kept)
        told.shown = list(self.shown)
        return told

    def moment(self):
        """What back_to takes behind one step, to come back to all as it is."""
        # No step changes more than the last two calls.
        top = self.stack[-2:]
        return (self.memory.moment(), len(self.stack) - len(top), top, len(self.kept), len(self.shown))

    def back_to(self, moment):
        """Undoes the one step that was done since a moment."""
        memory_then, below, top, kept, shown = moment
        self.memory.back_to(memory_then)
        self.stack[below:] = top
        self.kept[kept:] = []
        self.shown[shown:] = []

    def begin(self, function, passed, numbers):
        """Begins a call: passed has what its parameters hold, numbers the marks of the other names."""
        names = self._program.names(function)
        holds = {name: passed.get(name) for name in names}
        others = [name for name in names if name not in passed]
        for name, many in zip(others, numbers):
            holds[name] = _fresh(self.memory, many)
        self.stack.append(Call(function, (0,), holds))

    def spot(self):
        """The Spot at which the last call stands."""
        return self._program.spot_at(self.stack[-1].where())

    def is_over(self):
        """Whether main stands at its end."""
        return len(self.stack) == 1 and self.spot().statement is None

    def _length_of(self, name):
        window, _ = self.stack[-1].holds[name]
        return window[1]

    def bounds(self):
        """The tuples (least, greatest) of the data of the next step, but for the room of a new array."""
        statement = self.spot().statement
        word = None if statement is None else statement[0]
        if word in ("new", "put", "copyput"):
            return [(1, MOST_MARKS)]
        if word in ("cut", "copycut"):
            return [(1, self._length_of(statement[2]))]
        if word == "set":
            return [(0, self._length_of(statement[1]) - 1)]
        if word == "either":
            return [(0, len(statement[1]) - 1)]
        if word == "loop":
            return [(0, 1)]
        if word == "call":
            called = statement[2]
            return [(1, MOST_MARKS)] * (len(self._program.names(called)) - len(self._program.parameters(called)))
        return []

    def least_room(self, many):
        """The least room that the data tell for a put of many marks, or None if they tell none."""
        statement = self.spot().statement
        if self.growing == "exact" or statement is None or statement[0] not in ("put", "copyput"):
            return None
        array, length = self.stack[-1].holds[statement[2]][0]
        stays = statement[0] == "put" and length + many <= self.memory.size_of(array)
        return None if stays else length + many

    def do(self, data):
        """Does one step with data that fit; returns the marks of a look."""
        spot = self.spot()
        call = self.stack[-1]
        statement = spot.statement
        if statement is None:
            self._end_call()
        elif statement[0] == "call":
            self._begin_call(statement, data)
        elif statement[0] == "either":
            self.stack[-1] = call.gone_to(spot.entered[data[0]])
        elif statement[0] == "loop":
            self.stack[-1] = call.gone_to(spot.entered[0] if data[0] == 1 else spot.after)
        elif statement[0] in MAKERS:
            maker = MAKERS[statement[0]]
            held = maker(self.memory, call.holds[statement[-1]], data)
            self.stack[-1] = call.given(statement[1], held).gone_to(spot.after)
        else:
            self.stack[-1] = call.gone_to(spot.after)
            return self._use(call, statement, data)
        return None

    def _use(self, call, statement, data):
        """Does a set, a keep or a look."""
        word, name = statement
        window, plain = call.holds[name]
        if word == "keep":
            self.kept.append((window, plain))
        if word == "look":
            self.shown.append((call.where(), self.memory.seen(window), marks_of(plain)))
            return self.memory.seen(window)
        if word == "set":
            marks = self.memory.new_marks(1)
            self.memory.write(window[0], data[0], marks)
            held = (window, changed(plain, data[0], marks[0]))
            self.stack[-1] = self.stack[-1].given(name, held)
        return None

    def _begin_call(self, statement, data):
        holds = self.stack[-1].holds
        passed = {}
        for parameter, name in zip(self._program.parameters(statement[2]), statement[3]):
            passed[parameter] = holds[name]
        self.begin(statement[2], passed, data)

    def _end_call(self):
        ended = self.stack.pop()
        held = ended.holds[self._program.result(ended.function)]
        spot = self.spot()
        self.stack[-1] = self.stack[-1].given(spot.statement[1], held).gone_to(spot.after)
