"""Places [23]."""
import random
import unittest

from sparetails.places import after, all_places, entered, statement_at, ways
from sparetails.programs import Program
from sparetails.statements import bodies
from tests.drawing import drawn_program, has_a_list_twice, nested, share_a_list, spoil


class ByHand:
    """The same answers, found in functions() alone, by plain recursion."""

    def __init__(self, program):
        self.functions = program.functions()

    def body_of(self, function, stem):
        body = self.functions[function][1]
        for k in range(0, len(stem), 2):
            body = bodies(body[stem[k]])[stem[k + 1]]
        return body

    def statement(self, place):
        function, address = place
        body = self.body_of(function, address[:-1])
        return body[address[-1]] if address[-1] < len(body) else None

    def places(self):
        found = []

        def walk(function, stem, body):
            for at, item in enumerate(body):
                found.append((function, stem + (at,)))
                for b, inner in enumerate(bodies(item)):
                    walk(function, stem + (at, b), inner)

        for function, (_, body, _) in self.functions.items():
            walk(function, (), body)
            found.append((function, (len(body),)))
        return sorted(found)

    def behind_body(self, function, stem):
        """The place behind the last statement of the body with this stem."""
        if not stem:
            return (function, (len(self.functions[function][1]),))
        around = (function, stem[:-1])
        return around if self.statement(around)[0] == "loop" else self.after(around)

    def after(self, place):
        function, address = place
        stem, at = address[:-1], address[-1]
        if at + 1 < len(self.body_of(function, stem)):
            return (function, stem + (at + 1,))
        return self.behind_body(function, stem)

    def entered(self, place, b):
        function, address = place
        if bodies(self.statement(place))[b]:
            return (function, address + (b, 0))
        return self.behind_body(function, address + (b,))

    def ways(self, place):
        statement = self.statement(place)
        if statement is None:
            return []
        found = {self.entered(place, b) for b in range(len(bodies(statement)))}
        if statement[0] != "either":
            found.add(self.after(place))
        return sorted(found)


def main(body):
    return Program({"main": ([], body, "s")})


def at(*address):
    return ("main", address)


PUT = ("put", "s", "s")
LOOK = ("look", "s")


class Places(unittest.TestCase):
    def test_drawn_programs(self):
        source = random.Random(23)
        for _ in range(400):
            program = drawn_program(source, depth=5)
            hand = ByHand(program)
            self.assertEqual(all_places(program), hand.places())
            for place in hand.places():
                statement = hand.statement(place)
                self.assertEqual(statement_at(program, place), statement)
                self.assertEqual(ways(program, place), hand.ways(place))
                if statement is not None:
                    self.assertEqual(after(program, place), hand.after(place))
                    for b in range(len(bodies(statement))):
                        self.assertEqual(entered(program, place, b), hand.entered(place, b))

    def test_places_are_tuples_ascending_with_ends(self):
        told = Program({"main": ([], [("loop", [PUT]), LOOK], "s"), "a": ([], [], "s"), "z": ([], [LOOK], "s")})
        self.assertEqual(all_places(told), [
            ("a", (0,)), ("main", (0,)), ("main", (0, 0, 0)), ("main", (1,)), ("main", (2,)), ("z", (0,)), ("z", (1,)),
        ])
        many = main([PUT] * 12)
        self.assertEqual(all_places(many), [at(k) for k in range(13)])
        for place in all_places(told):
            self.assertIs(type(place), tuple)
            self.assertIs(type(place[1]), tuple)

    def test_an_empty_function(self):
        told = main([])
        self.assertEqual(all_places(told), [at(0)])
        self.assertIsNone(statement_at(told, at(0)))
        self.assertEqual(ways(told, at(0)), [])

    def test_ends(self):
        told = main([PUT, LOOK])
        self.assertIsNone(statement_at(told, at(2)))
        self.assertEqual(ways(told, at(2)), [])
        self.assertEqual(after(told, at(1)), at(2))
        self.assertEqual(ways(told, at(1)), [at(2)])

    def test_empty_bodies(self):
        told = main([("loop", []), ("either", [[], [LOOK], []]), PUT])
        self.assertEqual(entered(told, at(0), 0), at(0))
        self.assertEqual(after(told, at(0)), at(1))
        self.assertEqual(ways(told, at(0)), [at(0), at(1)])
        self.assertEqual([entered(told, at(1), b) for b in range(3)], [at(2), at(1, 1, 0), at(2)])
        self.assertEqual(ways(told, at(1)), [at(1, 1, 0), at(2)])
        self.assertEqual(after(told, at(1, 1, 0)), at(2))

    def test_empty_bodies_at_the_end_of_a_loop(self):
        told = main([("loop", [PUT, ("either", [[], [("loop", [])], []])])])
        self.assertEqual(entered(told, at(0, 0, 1), 0), at(0))
        self.assertEqual(after(told, at(0, 0, 1)), at(0))
        self.assertEqual(ways(told, at(0, 0, 1)), [at(0), at(0, 0, 1, 1, 0)])
        self.assertEqual(ways(told, at(0, 0, 1, 1, 0)), [at(0), at(0, 0, 1, 1, 0)])
        self.assertEqual(ways(told, at(0)), [at(0, 0, 0), at(1)])

    def test_loops_that_end_in_loops(self):
        told = main([("loop", [("loop", [("loop", [PUT])])]), LOOK])
        self.assertEqual(after(told, at(0)), at(1))
        self.assertEqual(after(told, at(0, 0, 0)), at(0))
        self.assertEqual(after(told, at(0, 0, 0, 0, 0)), at(0, 0, 0))
        self.assertEqual(after(told, at(0, 0, 0, 0, 0, 0, 0)), at(0, 0, 0, 0, 0))
        self.assertEqual(ways(told, at(0, 0, 0)), [at(0), at(0, 0, 0, 0, 0)])

    def test_eithers_in_eithers(self):
        told = main([("either", [[("either", [[PUT, LOOK], []])], [PUT]]), LOOK])
        self.assertEqual(after(told, at(0, 0, 0, 0, 0)), at(0, 0, 0, 0, 1))
        self.assertEqual(after(told, at(0, 0, 0, 0, 1)), at(1))
        self.assertEqual(entered(told, at(0, 0, 0), 1), at(1))
        self.assertEqual(ways(told, at(0)), [at(0, 0, 0), at(0, 1, 0)])

    def test_bodies_that_lead_to_one_place(self):
        told = main([("either", [[], [], []])])
        self.assertEqual(ways(told, at(0)), [at(1)])
        told = main([("loop", [("either", [[], []])])])
        self.assertEqual(ways(told, at(0, 0, 0)), [at(0)])

    def test_deep_bodies(self):
        for depth in (8, 9, 100):
            told = main(nested(depth, [PUT, ("loop", [])]) + [LOOK])
            inner = (0, 0) * depth
            self.assertEqual(statement_at(told, ("main", inner + (0,))), PUT)
            self.assertEqual(after(told, ("main", inner + (0,))), ("main", inner + (1,)))
            self.assertEqual(after(told, ("main", inner + (1,))), ("main", inner[:-1]))
            told = main(nested(depth, [PUT, ("loop", [])], "either") + [LOOK])
            inner = (0, 1) * depth
            self.assertEqual(after(told, ("main", inner + (1,))), at(1))
            self.assertEqual(entered(told, ("main", inner + (1,)), 0), ("main", inner + (1,)))
            self.assertEqual(ways(told, at(0)), [at(0, 1, 0), at(1)])
            self.assertEqual(len(all_places(told)), depth + 4)

    def test_statements_stand_as_in_functions(self):
        either = ("either", ((("call", "s", "f", ["s"]),), ()))
        told = Program({"main": ((), (either,), "s"), "f": (["s"], (), "s")})
        self.assertEqual(statement_at(told, at(0)), ("either", [[("call", "s", "f", ("s",))], []]))
        self.assertEqual(statement_at(told, at(0, 0, 0)), ("call", "s", "f", ("s",)))

    def test_what_is_returned_is_the_callers(self):
        source = random.Random(24)
        for _ in range(60):
            program = drawn_program(source, depth=4)
            before = program.functions()
            for place in all_places(program):
                for asked in (lambda: statement_at(program, place), lambda: ways(program, place),
                              lambda: all_places(program)):
                    first, second = asked(), asked()
                    self.assertFalse(share_a_list(first, second))
                    self.assertFalse(has_a_list_twice(first))
                    spoil(first)
                    self.assertEqual(asked(), second)
            self.assertEqual(program.functions(), before)

    def test_thousands_of_statements(self):
        told = main([("loop", [PUT] * 4000), LOOK])
        self.assertEqual(len(all_places(told)), 4003)
        for place in all_places(told)[1:4001]:
            self.assertEqual(statement_at(told, place), PUT)
            self.assertEqual(ways(told, place), [after(told, place)])


if __name__ == "__main__":
    unittest.main()
