"""Runs along paths: at first with lengths that are not known yet, then with the least that stand as the rows tell.

A window is a tuple (array, index of its length). A term, of which data become numbers, is a tuple (plus, minus, more)
with the indexes of two lengths, or None for nought.
"""
from sparetails.closing import MAIN_CALL
from sparetails.lengths import Lengths
from sparetails.moves import OUTSIDE, moved_shape
from sparetails.orders import compare, level_of, points_of
from sparetails.passing import STORED, TIES, come_back, fresh_orders, laid_orders, passed_in
from sparetails.shapes import PASSED, array_of, kept_points, shape_of


def _told(length):
    """The data that tell a length."""
    return [(length, None, 0)]


def _worth(numbers, term):
    plus, minus, more = term
    return (0 if plus is None else numbers[plus]) - (0 if minus is None else numbers[minus]) + more


class Arrays:
    """The arrays of a run, each with the index of its room, and what is asked of all lengths."""

    def __init__(self, growing):
        self.lengths = Lengths()
        self.rooms = []
        self._growing = growing

    def of_its_length(self, length):
        """A window on a new array that sees all of it."""
        self.rooms.append(length)
        return (len(self.rooms) - 1, length)

    def fresh(self):
        """A window on a new array as new makes it."""
        return self.of_its_length(self.lengths.add())

    def cut(self, window):
        """A window that sees some of the first cells of another one."""
        length = self.lengths.add()
        self.lengths.set_apart(window[1], length, 0)
        return (window[0], length)

    def stayed(self, window):
        """The window and the data of a put that stays."""
        array, elder = window
        length = self.lengths.add()
        self.lengths.set_apart(length, elder, 1)
        self.lengths.set_apart(self.rooms[array], length, 0)
        return (array, length), [(length, elder, 0)]

    def moved(self, elder, beyond):
        """The window and the data of a put that moves, or a copyput, to a length beyond another one."""
        length = self.lengths.add()
        self.lengths.set_apart(length, beyond, 1)
        many = (length, elder, 0)
        if self._growing == "exact":
            return self.of_its_length(length), [many]
        room = self.lengths.add()
        self.lengths.set_apart(room, length, 0)
        self.rooms.append(room)
        return (len(self.rooms) - 1, length), [many, *_told(room)]


class Frame:
    """A call: windows by names, and by the points that were passed.

    outside and stored have, for some arrays, the lengths that "^" and "!" stand for on them.
    """

    def __init__(self, passed, outside):
        self.windows = {}
        self.passed = passed
        self.outside = outside
        self.stored = {}

    def array_under(self, order):
        """The array of an order of a row in which the call stands."""
        known = {**self.windows, **self.passed}
        return [known[point][0] for point in points_of(order) if point in known][0]

    def points_on(self, array):
        """The dict from all names, and from the points on an array, to lengths; some may be lacking."""
        known = {**self.windows, **self.passed}
        told = {point: window[1] for point, window in known.items()}
        return {**told, "^": self.outside.get(array), "!": self.stored.get(array)}

    def ties_on(self, array):
        """The dict from what ties an array to that of the caller to lengths; some may be lacking."""
        points = self.points_on(array)
        return {**{tie: points.get(point) for point, tie in TIES.items()}, STORED: points["!"]}


class Sketch:
    """A run that goes along a path, move by move."""

    def __init__(self, facts, growing):
        self._facts = facts
        self._growing = growing
        self._arrays = Arrays(growing)
        self._frames = []
        self._data = []
        self._begins = self._begin(MAIN_CALL[0], Frame({}, {}))

    def _begin(self, function, frame):
        """Begins a call; returns the terms that tell how many marks its own windows have."""
        program = self._facts.subject
        parameters = [] if function == "main" else program.parameters(function)
        for point, name in zip(PASSED, parameters):
            frame.windows[name] = frame.passed[point]
        told = []
        for name in program.names(function):
            if name not in parameters:
                frame.windows[name] = self._arrays.fresh()
                told.extend(_told(frame.windows[name][1]))
        self._frames.append(frame)
        return told

    def _points_on(self, array):
        return {**self._frames[-1].points_on(array), "=": self._arrays.rooms[array]}

    def _rank(self, order, points):
        self._arrays.lengths.rank([[points[point] for point in level] for level in order])

    def _stand(self, row):
        """Lets the call at work stand in a row."""
        for order in row[3]:
            self._rank(order, self._points_on(self._frames[-1].array_under(order)))

    def go(self, move):
        """Does a step of the run."""
        if move[0] == "step":
            told = self._step(move[1], move[2])
        elif move[0] == "call":
            told = self._call(move[1])
        else:
            told = self._back(move[1], move[2], move[3])
        self._data.append(told)
        self._stand(move[-1])

    def _step(self, row, follower):
        statement = self._facts.statement_of(row)
        word, v = statement[0], statement[1]
        if word in ("either", "loop"):
            return self._branch(row, follower)
        if word in ("set", "keep", "look"):
            return self._use(row, word, v)
        window, told = self._make(row, follower, self._frames[-1].windows[statement[-1]])
        self._frames[-1].windows[v] = window
        return told

    def _branch(self, row, follower):
        """The data that lead an either, or a loop, to the row that follows."""
        spot = self._facts.spot_of(row)
        if follower[2] not in spot.entered:
            return [(None, None, 0)]
        at = spot.entered.index(follower[2])
        return [(None, None, 1 if spot.statement[0] == "loop" else at)]

    def _use(self, row, word, v):
        """Does a set, a keep or a look."""
        frame = self._frames[-1]
        array, length = frame.windows[v]
        if word == "keep" and compare(row[3][array_of(row[3], v)], "!", v) not in (0, 1):
            frame.stored[array] = length
        # The last cell is seen by nothing that is lower.
        return [(length, None, -1)] if word == "set" else []

    def _make(self, row, follower, elder):
        """The window that a statement makes, elder being that of the name that it uses, and its data."""
        word = self._facts.statement_of(row)[0]
        if word == "take":
            return elder, []
        if word == "copy":
            return self._arrays.of_its_length(elder[1]), []
        if word == "copyput":
            return self._arrays.moved(elder[1], elder[1])
        if word == "put":
            moves = self._moves(row, follower)
            return self._arrays.moved(elder[1], self._arrays.rooms[elder[0]]) if moves else self._arrays.stayed(elder)
        window = self._arrays.fresh() if word == "new" else self._arrays.cut(elder)
        if word == "copycut":
            window = self._arrays.of_its_length(window[1])
        return window, _told(window[1])

    def _moves(self, row, follower):
        """Whether a put that leads to a row can move there; otherwise it stays."""
        spot = self._facts.spot_of(row)
        shape = moved_shape(self._growing, row[3], spot.statement[1])
        return self._facts.rows_at(row, [spot.after], [shape]) == [follower]

    def _call(self, row):
        frame = self._frames[-1]
        _, _, function, names = self._facts.statement_of(row)
        later = [*self._facts.watched_behind(row), *OUTSIDE]
        outside = {}
        for order in row[3]:
            heights = [(level_of(order, point), point) for point in points_of(order) if point in later]
            if heights and passed_in(order, names):
                array = frame.array_under(order)
                outside[array] = frame.points_on(array)[max(heights)[1]]
        passed = {point: frame.windows[name] for point, name in zip(PASSED, names)}
        return self._begin(function, Frame(passed, outside))

    def _back(self, row, end, behind):
        """Ends a call."""
        _, v, function, _ = self._facts.statement_of(row)
        ended = self._frames.pop()
        frame = self._frames[-1]
        frame.windows[v] = ended.windows[self._facts.subject.result(function)]
        stored = dict(ended.stored)
        for order in self._laid(row, end, behind):
            point = "+0" if level_of(order, TIES["+0"]) is not None else "+1"
            array = ended.passed[point][0]
            self._rank(order, {**self._points_on(array), **ended.ties_on(array)})
            if compare(order, "!", STORED) in (0, 1):
                stored[array] = frame.stored[array]
        frame.stored = {**frame.stored, **stored}
        return []

    def _laid(self, row, end, behind):
        """The orders behind a call, still with what ties them, of the arrays of which windows were passed."""
        names = self._facts.statement_of(row)[3]
        alive = self._facts.alive_at((behind[0], behind[2]))
        rest = [order for order in row[3] if not passed_in(order, names)]
        choices = [((), kept_points(shape_of([*rest, *fresh_orders(self._facts, row, end)]), alive))]
        for order in row[3]:
            if passed_in(order, names):
                # Of those that are kept alike, one will do.
                found = {}
                for one in laid_orders(self._facts, row, end, order):
                    found.setdefault(kept_points((come_back(one),), alive), one)
                choices = [((*laid, one), (*shape, *kept)) for laid, shape in choices for kept, one in found.items()]
        return [laid for laid, shape in choices if shape_of(shape) == behind[3]][0]

    def run(self, bottom):
        """The run, with the least lengths, none below the bottom."""
        numbers = self._arrays.lengths.least(bottom)
        data = [tuple([_worth(numbers, term) for term in terms]) for terms in self._data]
        return (self._growing, tuple([_worth(numbers, term) for term in self._begins]), tuple(data))


def run_along(facts, growing, path, bottom):
    """The run that goes along a path, with the least lengths, none below the bottom."""
    sketch = Sketch(facts, growing)
    for move in path:
        sketch.go(move)
    return sketch.run(bottom)
