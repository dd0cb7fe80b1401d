"""Runs beside rows: in which row the call at work stands, and what the next step spoils."""
from sparetails.closing import MAIN_ENTRY
from sparetails.machine import Machine
from sparetails.shapes import PASSED, shape_of

# Behind these the room of a new array is told by rows, whatever the growing is.
WITH_ROOM = ("new", "copy", "copycut")


class Begun:
    """A call as it began: its entry, the windows that were passed by their points, how much was stored then.

    outside has the greatest length of what is watched outside of the call, for arrays that were passed.
    """

    def __init__(self, entry, passed, stored, outside):
        self.entry = entry
        self.passed = passed
        self.stored = stored
        self.outside = outside


def _order_of(lengths):
    """The order of a dict from points to lengths."""
    levels = {}
    for point in sorted(list(lengths)):
        levels.setdefault(lengths[point], []).append(point)
    return tuple([tuple(levels[length]) for length in sorted(list(levels))])


def _greatest(windows, arrays):
    """The dict from those of some arrays, keys of a dict, to the greatest length that a window has on them."""
    told = {}
    for array, length in windows:
        if array in arrays:
            told[array] = max(length, told.get(array, 0))
    return told


def sees(window, cell):
    """Whether a window sees a cell, a tuple (array, index)."""
    return window[0] == cell[0] and cell[1] < window[1]


class Trace:
    """A Machine from its begin on, and what rows tell of its calls."""

    def __init__(self, facts, growing, begins):
        self.machine = Machine(facts.subject, growing, begins)
        self._facts = facts
        self._growing = growing
        self._begun = [Begun(MAIN_ENTRY, {}, 0, {})]
        # The arrays, as keys, whose rooms are told by rows.
        self._with_room = {}
        self._tell_rooms(list(self.machine.names().values()))

    def _tell_rooms(self, windows):
        for array, _ in windows:
            self._with_room[array] = True

    def statement_ahead(self):
        """The statement ahead of which the call at work stands, or None at an end."""
        return self._facts.subject.spot_at(self.machine.here()).statement

    def _ahead(self, level, place):
        """What of a row tells where a call stands; it is at a level, main's being 0."""
        return (place[0], self._begun[level].entry, place[1])

    def watched_windows(self):
        """For each call, main's first, the dict from the names that are watched behind its statement to their windows.

        The name to which a statement, or the result of a call that waits, gives a window is none of them.
        """
        told = []
        for level, (place, windows) in enumerate(self.machine.calls()):
            names = self._facts.watched_behind(self._ahead(level, place))
            told.append({name: windows[name] for name in names})
        return told

    def _stored_since(self, begun):
        return self.machine.store()[begun.stored:]

    def _shape(self, windows, begun):
        """The shape of some windows by names, and of what was passed to a call."""
        lengths = {}
        for point, (array, length) in [*list(windows.items()), *list(begun.passed.items())]:
            lengths.setdefault(array, {})[point] = length
        for array, length in begun.outside.items():
            lengths[array]["^"] = length
        for array, length in _greatest(self._stored_since(begun), lengths).items():
            lengths[array]["!"] = length
        return shape_of([_order_of({**points, **self._room_point(array)}) for array, points in lengths.items()])

    def _room_point(self, array):
        """The dict from the point of the room of an array to it, if rows tell it."""
        is_told = self._growing == "exact" or array in self._with_room
        return {"=": self.machine.room_of(array)} if is_told else {}

    def row(self):
        """The row in which the call at work stands."""
        place = self.machine.here()
        begun = self._begun[-1]
        windows = self.machine.names()
        shape = self._shape({name: windows[name] for name in self._facts.alive_at(place)}, begun)
        return (*self._ahead(-1, place), shape)

    def written(self, data):
        """The first cell, a tuple (array, index), that the next step writes in place, or None."""
        statement = self.statement_ahead()
        if statement is None or statement[0] not in ("put", "set"):
            return None
        array, length = self.machine.names()[statement[-1]]
        if statement[0] == "set":
            return (array, data[0])
        return (array, length) if length + data[0] <= self.machine.room_of(array) else None

    def victim(self, data):
        """What the next step spoils: the least name of the call at work, or else "!", or else "^"; None for nothing."""
        cell = self.written(data)
        if cell is None:
            return None
        names = [name for name, window in self.watched_windows()[-1].items() if sees(window, cell)]
        if names:
            return names[0]
        begun = self._begun[-1]
        if any([sees(window, cell) for window in self._stored_since(begun)]):
            return "!"
        return "^" if begun.outside.get(cell[0], 0) > cell[1] else None

    def step(self, data):
        """Does a step with the Machine."""
        statement = self.statement_ahead()
        if statement is not None and statement[0] == "call":
            self._begin(statement, data)
            return
        self.machine.step(data)
        if statement is None:
            self._begun.pop()
        elif statement[0] in WITH_ROOM:
            self._tell_rooms([self.machine.names()[statement[1]]])

    def _begin(self, statement, data):
        """Does the step of a call."""
        windows = self.machine.names()
        passed = {point: windows[name] for point, name in zip(PASSED, statement[3])}
        elder = self.machine.store()
        stored = len(elder)
        for watched in self.watched_windows():
            elder.extend(list(watched.values()))
        begun = Begun(None, passed, stored, _greatest(elder, {array: True for array, _ in passed.values()}))
        made = self._facts.is_made_watched(self._ahead(-1, self.machine.here()))
        begun.entry = (self._shape({}, begun), made)
        self.machine.step(data)
        self._begun.append(begun)
        parameters = self._facts.subject.parameters(statement[2])
        names = self.machine.names()
        self._tell_rooms([window for name, window in names.items() if name not in parameters])
