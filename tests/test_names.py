"""If functions and names are renamed such that their order stays, the results are renamed likewise [13]."""
import random
import unittest

from sparetails.machine import Machine
from sparetails.places import all_places, statement_at, ways
from sparetails.programs import Program
from sparetails.statements import bodies, copying, made, named, read, sharing
from tests.drawing import drawn_machine, drawn_program

NEWER = {"p": "aa", "q": "ab", "r": "kkkkkkkk", "s": "zz"}
# "main" keeps its name, so the others have to stay on their sides of it.
CALLED = {"f": "bb", "g": "lz", "main": "main"}


def renamed(statement):
    if statement[0] == "loop":
        return ("loop", [renamed(item) for item in statement[1]])
    if statement[0] == "either":
        return ("either", [[renamed(item) for item in body] for body in statement[1]])
    if statement[0] == "call":
        return ("call", NEWER[statement[1]], CALLED[statement[2]], tuple(NEWER[name] for name in statement[3]))
    return (statement[0], *[NEWER[name] for name in statement[1:]])


def renamed_program(program):
    told = program.functions()
    return Program({
        CALLED[name]: ([NEWER[one] for one in parameters], [renamed(item) for item in body], NEWER[result])
        for name, (parameters, body, result) in told.items()
    })


def renamed_place(place):
    return None if place is None else (CALLED[place[0]], place[1])


def renamed_windows(windows):
    return {NEWER[name]: window for name, window in windows.items()}


class Names(unittest.TestCase):
    def setUp(self):
        source = random.Random(13)
        self.drawn = [drawn_program(source) for _ in range(200)]

    def test_programs(self):
        for program in self.drawn:
            other = renamed_program(program)
            self.assertEqual(list(other.functions()), [CALLED[name] for name in program.functions()])
            self.assertEqual(other.reached(), [CALLED[name] for name in program.reached()])
            for name in program.functions():
                self.assertEqual(other.names(CALLED[name]), [NEWER[one] for one in program.names(name)])
                self.assertEqual(other.parameters(CALLED[name]), [NEWER[one] for one in program.parameters(name)])
                self.assertEqual(other.calls(CALLED[name]), [CALLED[one] for one in program.calls(name)])
                self.assertEqual(other.result(CALLED[name]), NEWER[program.result(name)])

    def test_statements(self):
        for program in self.drawn:
            for _, body, _ in program.functions().values():
                for item in body:
                    other = renamed(item)
                    self.assertEqual(read(other), [NEWER[name] for name in read(item)])
                    self.assertEqual(named(other), [NEWER[name] for name in named(item)])
                    self.assertEqual(made(other), NEWER.get(made(item)))
                    self.assertEqual(bodies(other), [[renamed(one) for one in inner] for inner in bodies(item)])
                    for asked in (copying, sharing):
                        want = asked(item)
                        self.assertEqual(asked(other), None if want is None else renamed(want))

    def test_places(self):
        for program in self.drawn:
            other = renamed_program(program)
            self.assertEqual(all_places(other), [renamed_place(place) for place in all_places(program)])
            for place in all_places(program):
                statement = statement_at(program, place)
                want = None if statement is None else renamed(statement)
                self.assertEqual(statement_at(other, renamed_place(place)), want)
                self.assertEqual(ways(other, renamed_place(place)), [renamed_place(way) for way in ways(program, place)])

    def test_machines(self):
        source = random.Random(131)
        for program in self.drawn:
            machine = drawn_machine(source, program, "spare", 40)
            growing, begins, data = machine.run()
            other = Machine(renamed_program(program), growing, begins)
            for told in data:
                other.step(told)
            self.assertEqual(other.calls(), [(renamed_place(place), renamed_windows(held))
                                             for place, held in machine.calls()])
            self.assertEqual(other.looks(), [(renamed_place(place), *told) for place, *told in machine.looks()])
            self.assertEqual((other.store(), other.wanted()), (machine.store(), machine.wanted()))


if __name__ == "__main__":
    unittest.main()
