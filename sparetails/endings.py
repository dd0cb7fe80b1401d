"""How a run goes on behind a step that spoiled: until a look is not right, or main is over."""
from sparetails.goals import Costs


def _room_for(machine, statement, many):
    """The data of a put, or a copyput, of some marks: with the least room if it is to be told."""
    array, length = machine.names()[statement[2]]
    stays = statement[0] == "put" and length + many <= machine.room_of(array)
    return (many,) if stays or machine.run()[0] == "exact" else (many, length + many)


class Ending:
    """A run that goes on by ways; index is that of a cell that was spoiled, which no set is to write into again."""

    def __init__(self, program, machine, index):
        self.is_wrong = False
        self._program = program
        self._machine = machine
        self._index = index

    def _data_to(self, spot, address):
        """The data of the step of a spot that leads to an address."""
        word = None if spot.statement is None else spot.statement[0]
        wanted = self._machine.wanted()
        if word == "loop":
            return (1 if address == spot.entered[0] else 0,)
        if word == "either":
            return (spot.entered.index(address),)
        if word in ("put", "copyput"):
            return _room_for(self._machine, spot.statement, 1)
        if word in ("cut", "copycut"):
            return (wanted[0][1],)
        if word == "set":
            return (min(wanted[0][1], 1) if self._index == 0 else 0,)
        return tuple([least for least, _ in wanted])

    def _step(self, address):
        """Does a step that leads to an address, unless a look was wrong."""
        if self.is_wrong:
            return
        machine = self._machine
        spot = self._program.spot_at(machine.here())
        if spot.statement is not None and spot.statement[0] == "look":
            name = spot.statement[1]
            self.is_wrong = machine.marks(name) != machine.plain(name)
        machine.step(self._data_to(spot, address))

    def _reach(self, word, name):
        """Goes the shortest way of a goal of the call at work."""
        function, address = self._machine.here()
        goal = (word, function, address, name)
        way = Costs(self._program, goal).way(goal)
        end = (function, self._program.addresses(function)[-1])
        for _, place in zip(way, [*way[1:], end]):
            self._step(place[1])

    def end_calls(self, level):
        """Ends the calls that stand on the one with the index level, main's being 0."""
        while not self.is_wrong and len(self._machine.calls()) - 1 > level:
            self._reach("end", None)
            self._step(None)

    def _is_looked_at(self, name):
        """Whether a way leads to a look at what a name of the call at work sees, before this call has ended."""
        function, address = self._machine.here()
        goal = ("look", function, address, name)
        return Costs(self._program, goal).fewest(goal) is not None

    def show(self, name):
        """Goes on until what a name of the call at work sees is looked at, or kept."""
        while not self.is_wrong and not self._is_looked_at(name):
            self._reach("result", name)
            name = self._ahead_of_caller()
            self._step(None)
        if not self.is_wrong:
            self._reach("look", name)

    def _ahead_of_caller(self):
        """The name that has the result of the call at work behind it."""
        place, _ = self._machine.calls()[-2]
        return self._program.spot_at(place).statement[1]

    def end(self):
        """Goes on until main is over."""
        self.end_calls(0)
        if not self.is_wrong:
            self._reach("end", None)
