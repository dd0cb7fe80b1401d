"""The looks of a run are those of windows whose rule gives the rooms that the data say [12]."""
import random
import unittest

from sparetails.machine import Machine
from sparetails.places import after, entered, statement_at
from sparetails.programs import Program
from sparetails.rules import Told, exact
from sparetails.windows import Window
from tests.drawing import bounds_of_room, drawn_data, drawn_machine, drawn_program


class Hand:
    """A run that is done with Windows by hand; a thing is a list [window, list of marks by the plain meaning]."""

    def __init__(self, program, begins, rule):
        self.program = program
        self.rule = rule
        self.many = 0
        self.stack = []
        self.store = []
        self.looks = []
        self.begin("main", {}, begins)

    def marks(self, many):
        self.many += many
        return list(range(self.many - many, self.many))

    def fresh(self, many):
        marks = self.marks(many)
        return [Window(marks, rule=self.rule), marks]

    def begin(self, function, passed, begins):
        things, begins = dict(passed), list(begins)
        for name in self.program.names(function):
            if name not in things:
                things[name] = self.fresh(begins.pop(0))
        self.stack.append([(function, (0,)), things])

    def is_over(self):
        return len(self.stack) == 1 and statement_at(self.program, self.stack[0][0]) is None

    def step(self, data):
        place, things = self.stack[-1]
        statement = statement_at(self.program, place)
        if statement is None:
            self.stack.pop()
            waiting, outer = self.stack[-1]
            outer[statement_at(self.program, waiting)[1]] = list(things[self.program.result(place[0])])
            self.stack[-1][0] = after(self.program, waiting)
            return
        word = statement[0]
        if word == "call":
            parameters = self.program.parameters(statement[2])
            passed = {p: list(things[name]) for p, name in zip(parameters, statement[3])}
            self.begin(statement[2], passed, data)
            return
        if word in ("either", "loop"):
            inside = word == "either" or data[0] == 1
            b = data[0] if word == "either" else 0
            self.stack[-1][0] = entered(self.program, place, b) if inside else after(self.program, place)
            return
        self.use(place, statement, things, data)
        self.stack[-1][0] = after(self.program, place)

    def use(self, place, statement, things, data):
        word, v = statement[:2]
        if word == "new":
            things[v] = self.fresh(data[0])
        elif word == "set":
            mark = self.marks(1)[0]
            things[v][0][data[0]] = mark
            plain = list(things[v][1])
            plain[data[0]] = mark
            things[v] = [things[v][0], plain]
        elif word == "keep":
            self.store.append(list(things[v]))
        elif word == "look":
            self.looks.append((place, things[v][0].marks(), list(things[v][1])))
        else:
            things[v] = self.grown(word, things[statement[2]], data)

    def grown(self, word, thing, data):
        window, plain = thing
        if word.startswith("copy"):
            window, word = window.copied(), {"copy": "take", "copycut": "cut", "copyput": "put"}[word]
            if word == "cut":
                return [window.cut(data[0]).copied(), plain[:data[0]]]
        if word == "cut":
            return [window.cut(data[0]), plain[:data[0]]]
        if word == "put":
            marks = self.marks(data[0])
            window += marks
            return [window, plain + marks]
        return [window, list(plain)]

    def all_looks(self):
        if not self.is_over():
            return self.looks
        return self.looks + [(None, window.marks(), plain) for window, plain in self.store]


class ByHand(unittest.TestCase):
    def same(self, machine, hand):
        """Compares all names of all calls, and the store, arrays included."""
        pairs = list(zip(machine.store(), [window for window, _ in hand.store]))
        self.assertEqual(len(machine.store()), len(hand.store))
        self.assertEqual([place for place, _ in machine.calls()], [place for place, _ in hand.stack])
        for (_, told), (_, things) in zip(machine.calls(), hand.stack):
            self.assertEqual(list(told), sorted(things))
            pairs += [(told[name], things[name][0]) for name in told]
        for (array, length), window in pairs:
            self.assertEqual(machine.cells_of(array)[:length], window.marks())
            self.assertEqual(machine.room_of(array), window.room)
            self.assertEqual([array == other for (other, _), _ in pairs], [window.shares(one) for _, one in pairs])
        for name, (window, plain) in hand.stack[-1][1].items():
            self.assertEqual((machine.marks(name), machine.plain(name)), (window.marks(), plain))

    def play(self, program, machine):
        """The rooms of the moves of a run, in order."""
        rooms = []
        again = Machine(program, *machine.run()[:2])
        for data in machine.run()[2]:
            statement = statement_at(program, again.here())
            if statement is not None and bounds_of_room(program, again, data[0] if data else 0) is not None:
                rooms.append(data[1])
            again.step(data)
        return rooms

    def check(self, program, machine):
        growing, begins, data = machine.run()
        rule = Told(self.play(program, machine)) if growing == "spare" else exact
        again, hand = Machine(program, growing, begins), Hand(program, begins, rule)
        self.same(again, hand)
        for told in data:
            again.step(told)
            hand.step(told)
            self.same(again, hand)
        self.assertEqual(machine.looks(), hand.all_looks())
        if growing == "spare":
            self.assertEqual((rule.left, len(rule.asked())), (0, len(self.play(program, machine))))
        return [look for look in machine.looks() if look[1] != look[2]]

    def test_drawn_programs(self):
        source = random.Random(12)
        wrong = {"exact": 0, "spare": 0}
        for _ in range(500):
            program = drawn_program(source, names=("r", "s"))
            for growing in ("exact", "spare"):
                machine = drawn_machine(source, program, growing, source.randint(0, 60))
                wrong[growing] += len(self.check(program, machine))
        # Looks that are not right are what this is about: enough of them must have been drawn.
        self.assertGreater(min(wrong.values()), 10)

    def test_runs_to_the_end(self):
        source = random.Random(112)
        ended = 0
        for _ in range(100):
            program = drawn_program(source, most=8, depth=1)
            machine = drawn_machine(source, program, "spare", 150)
            ended += machine.is_over()
            self.check(program, machine)
        self.assertGreater(ended, 50)

    def test_a_program_in_which_room_is_seen(self):
        body = [("put", "s", "s"), ("take", "t", "s"), ("put", "t", "t"), ("put", "s", "s"), ("look", "t"), ("keep", "t")]
        program = Program({"main": ((), body, "s")})
        for room, wrong in ((2, 0), (3, 2), (4, 2)):
            machine = Machine(program, "spare", [1, 1])
            while not machine.is_over():
                data = drawn_data(random.Random(0), program, machine)
                if machine.wanted():
                    moves = bounds_of_room(program, machine, 1)
                    data = (1,) if moves is None else (1, room if len(machine) == 0 else moves[0])
                machine.step(data)
            self.assertEqual(len(self.check(program, machine)), wrong)


if __name__ == "__main__":
    unittest.main()
