"""What is alive, and what is watched [51]."""
import random
import unittest

from sparetails.errors import NoPlace, Unknown
from sparetails.places import all_places, statement_at, ways
from sparetails.programs import Program
from sparetails.statements import made, read
from sparetails.watching import alive, are_watched_rows, passed, watched, watched_rows
from sparetails.ways import steps_to_look, steps_to_result
from tests.drawing import PUT, STRANGE, at, dense_program, drawn_program, in_f, main, nested


class Alive(unittest.TestCase):
    def test_each_statement_that_reads(self):
        for statement in (("set", "t"), ("keep", "t"), ("look", "t"), ("take", "u", "t"), ("cut", "u", "t"), ("put", "u", "t"),
                          ("copy", "u", "t"), ("copycut", "u", "t"), ("copyput", "u", "t"), ("call", "u", "f", ("t",))):
            program = main([statement, ("new", "u")], f=(["p"], [], "p"))
            self.assertEqual(alive(program, at(0)), ["s", "t"])
            self.assertEqual(alive(program, at(1)), ["s"])

    def test_the_result_also_of_main(self):
        program = main([("new", "t")], f=([], [], "u"))
        self.assertEqual([alive(program, at(0)), alive(program, at(1)), alive(program, in_f(0))], [["s"], ["s"], ["u"]])

    def test_another_window(self):
        for statement in (("new", "s"), ("take", "s", "t"), ("put", "s", "t"), ("copyput", "s", "t"), ("call", "s", "f", ("t",))):
            program = main([statement, ("look", "s")], f=(["p"], [], "p"))
            self.assertNotIn("s", alive(program, at(0)))
        self.assertEqual(alive(main([PUT, ("new", "s")]), at(0)), ["s"])

    def test_some_way_is_enough(self):
        program = main([("either", [[("new", "t")], []]), ("loop", [("look", "t")])])
        self.assertEqual([alive(program, place) for place in all_places(program)], [["s", "t"], ["s"], ["s", "t"], ["s", "t"], ["s"]])

    def test_loops_come_back(self):
        program = main([("loop", [("look", "t"), ("take", "t", "u")])])
        self.assertEqual(alive(program, at(0)), ["s", "t", "u"])
        self.assertEqual(alive(program, at(0, 0, 1)), ["s", "u"])

    def test_empty_bodies(self):
        program = main([("loop", []), ("either", [[]]), ("look", "t")])
        self.assertEqual([alive(program, at(k)) for k in range(4)], [["s", "t"]] * 3 + [["s"]])

    def test_what_is_passed_is_read_though_nothing_is_done_with_it(self):
        program = main([("call", "s", "f", ("t", "u"))], f=(["p", "q"], [], "r"))
        self.assertEqual(alive(program, at(0)), ["t", "u"])
        self.assertEqual(alive(program, in_f(0)), ["r"])


class Watched(unittest.TestCase):
    def test_looks_and_keeps(self):
        for word in ("look", "keep"):
            program = main([(word, "t"), ("set", "s")])
            self.assertEqual([watched(program, at(k), False) for k in range(3)], [["t"], [], []])
            self.assertEqual([watched(program, at(k), True) for k in range(3)], [["s", "t"], ["s"], ["s"]])

    def test_a_set_in_between(self):
        program = main([("set", "t"), ("look", "t")])
        self.assertEqual(watched(program, at(0), False), ["t"])
        self.assertEqual(watched(main([("set", "t")]), at(0), False), [])

    def test_names_that_are_only_copied_on(self):
        for word in ("take", "cut", "put", "copy", "copycut", "copyput"):
            program = main([(word, "u", "t"), (word, "a", "u")])
            self.assertEqual([watched(program, at(k), False) for k in range(3)], [[], [], []])
            program = main([(word, "u", "t"), (word, "a", "u"), ("look", "a")])
            self.assertEqual([watched(program, at(k), False) for k in range(4)], [["t"], ["u"], ["a"], []])
        program = main([("new", "t"), ("look", "t")])
        self.assertEqual(watched(program, at(0), False), [])

    def test_by_the_result_alone(self):
        program = main([("take", "s", "t")])
        self.assertEqual([watched(program, at(0), told) for told in (False, True)], [[], ["t"]])
        self.assertEqual([watched(program, at(1), told) for told in (False, True)], [[], ["s"]])

    def test_through_calls(self):
        told = (["p", "q"], [("take", "r", "q")], "r")
        program = main([("call", "t", "f", ("a", "b")), ("look", "t")], f=told)
        self.assertEqual(watched(program, at(0), False), ["b"])
        program = main([("call", "t", "f", ("a", "b")), ("look", "a")], f=told)
        self.assertEqual(watched(program, at(0), False), ["a"])
        program = main([("call", "t", "f", ("a", "b"))], "t", f=told)
        self.assertEqual([watched(program, at(0), told) for told in (False, True)], [[], ["b"]])

    def test_what_is_made_by_a_call_is_another_window(self):
        program = main([("call", "t", "f", ("t",)), ("look", "t")], f=(["p"], [("new", "p")], "p"))
        self.assertEqual(watched(program, at(0), False), [])

    def test_passed_twice(self):
        for looked, want in (("p", ["s"]), ("q", ["s"]), ("r", [])):
            program = main([("call", "s", "f", ("s", "s"))], f=(["p", "q"], [("look", looked)], "r"))
            self.assertEqual(watched(program, at(0), False), want)

    def test_recursion(self):
        body = [("either", [[("call", "r", "f", ("q", "p")), ("take", "p", "r")], [("look", "p")]])]
        program = main([("call", "s", "f", ("s", "t"))], f=(["p", "q"], body, "p"))
        self.assertEqual(watched(program, in_f(0), False), ["p", "q"])
        self.assertEqual(watched(program, at(0), False), ["s", "t"])
        body = [("loop", [("call", "p", "f", ("p",))])]
        program = main([("call", "s", "f", ("s",)), ("look", "s")], f=(["p"], body, "p"))
        self.assertEqual([watched(program, in_f(0), told) for told in (False, True)], [[], ["p"]])
        self.assertEqual(watched(program, at(0), False), ["s"])

    def test_watched_names_are_alive(self):
        source = random.Random(51)
        for _ in range(100):
            program = drawn_program(source)
            for place in all_places(program):
                for told in (False, True):
                    self.assertLessEqual(set(watched(program, place, told)), set(alive(program, place)))

    def test_deep_bodies(self):
        program = main(nested(100, [("take", "s", "t"), ("look", "s")]))
        self.assertEqual(alive(program, at(0)), ["s", "t"])
        self.assertEqual(watched(program, at(0), False), ["t"])


class Passed(unittest.TestCase):
    def test_passed(self):
        program = main([], f=(["p", "q"], [("look", "q")], "p"), g=(["q", "p"], [], "p"), h=([], [("look", "s")], "s"))
        told = [passed(program, name, truth) for name in "fgh" for truth in (False, True)]
        self.assertEqual(told, [[1], [0, 1], [], [1], [], []])

    def test_main_too(self):
        program = Program({"main": (["t", "s"], [("look", "t")], "s")})
        self.assertEqual([passed(program, "main", told) for told in (False, True)], [[0], [0, 1]])

    def test_in_the_order_of_the_parameters(self):
        program = main([], f=(["z", "a"], [("look", "a"), ("look", "z")], "a"))
        self.assertEqual(passed(program, "f", False), [0, 1])

    def test_no_such_function(self):
        program = main([], f=(["p"], [], "p"))
        for name in ("g", "s", "p", "mainn"):
            with self.assertRaises(Unknown) as caught:
                passed(program, name, True)
            self.assertEqual(caught.exception.name, name)


class Errors(unittest.TestCase):
    def test_no_place(self):
        program = main([PUT, ("loop", [PUT])], f=([], [], "s"))
        for place in (at(3), at(0, 0, 0), at(1, 1, 0), at(1, 0, 1), ("g", (0,)), at(), at(-1), in_f(1), at(1, 0), at(True)):
            for asked in (lambda: alive(program, place), lambda: watched(program, place, False),
                          lambda: watched(program, place, True)):
                with self.assertRaises(NoPlace) as caught:
                    asked()
                self.assertIs(caught.exception.place, place)


def alive_by_hand(program, place):
    """The names that some way reads, found by going along with each name alone."""
    found = []
    for name in program.names(place[0]):
        seen, waiting = {place}, [place]
        while waiting:
            here = waiting.pop()
            statement = statement_at(program, here)
            if (program.result(here[0]) == name) if statement is None else (name in read(statement)):
                found.append(name)
                break
            if statement is not None and made(statement) != name:
                for to in set(ways(program, here)) - seen:
                    seen.add(to)
                    waiting.append(to)
    return found


class Rows(unittest.TestCase):
    def setUp(self):
        body = [("loop", [("call", "q", "f", ("q", "p"))]), ("take", "p", "q")]
        self.program = main([("take", "t", "s"), ("call", "s", "f", ("s", "t")), ("look", "s")],
                            f=(["p", "q"], body, "p"))
        self.rows = watched_rows(self.program)

    def is_told(self, thing):
        return are_watched_rows(self.program, thing)

    def with_names(self, index, names):
        return self.rows[:index] + [(*self.rows[index][:3], names)] + self.rows[index + 1:]

    def test_the_rows(self):
        self.assertEqual(self.rows, [
            ("f", False, (0,), ()), ("f", False, (0, 0, 0), ()), ("f", False, (1,), ()), ("f", False, (2,), ()),
            ("f", True, (0,), ("p", "q")), ("f", True, (0, 0, 0), ("p", "q")), ("f", True, (1,), ("q",)), ("f", True, (2,), ("p",)),
            ("main", False, (0,), ("s",)), ("main", False, (1,), ("s", "t")), ("main", False, (2,), ("s",)), ("main", False, (3,), ()),
            ("main", True, (0,), ("s",)), ("main", True, (1,), ("s", "t")), ("main", True, (2,), ("s",)), ("main", True, (3,), ("s",)),
        ])

    def test_told_rows_in_any_order(self):
        self.assertIs(self.is_told(self.rows), True)
        self.assertIs(self.is_told(self.rows[::-1]), True)
        shuffled = list(self.rows)
        random.Random(0).shuffle(shuffled)
        self.assertIs(self.is_told(shuffled), True)

    def test_more_names_that_are_closed(self):
        names = {"f": ("p", "q"), "main": ("s", "t")}
        self.assertIs(self.is_told([(f, b, a, names[f]) for f, b, a, _ in self.rows]), True)
        self.assertIs(self.is_told(self.with_names(8, ("s", "t"))), True)
        self.assertIs(self.is_told(self.with_names(10, ("s", "t"))), True)
        self.assertIs(self.is_told(self.with_names(11, ("s",))), True)

    def test_more_names_that_are_not_closed(self):
        self.assertIs(self.is_told(self.with_names(3, ("p",))), False)
        self.assertIs(self.is_told(self.with_names(2, ("q",))), False)
        self.assertIs(self.is_told(self.with_names(6, ("p", "q"))), True)
        self.assertIs(self.is_told(self.with_names(0, ("p",))), False)
        self.assertIs(self.is_told(self.with_names(11, ("t",))), False)

    def test_a_row_out_or_twice(self):
        for index in range(len(self.rows)):
            self.assertIs(self.is_told(self.rows[:index] + self.rows[index + 1:]), False)
            self.assertIs(self.is_told(self.rows + [self.rows[index]]), False)
            other = self.rows[(index + 1) % len(self.rows)]
            self.assertIs(self.is_told(self.rows[:index] + [other] + self.rows[index + 1:]), False)

    def test_a_name_out(self):
        for index, row in enumerate(self.rows):
            for name in row[3]:
                rest = tuple(one for one in row[3] if one != name)
                self.assertIs(self.is_told(self.with_names(index, rest)), False)

    def test_names_of_other_forms(self):
        for names in (("q", "p"), ("p", "p", "q"), ("p", "q", "q"), ("p", "q", "s"), ("p", "q", "none"), ["p", "q"], "pq",
                      ("p", "q", 1), ("p", "q", None), ("p", "q", []), {"p": 1, "q": 2}, None, True):
            self.assertIs(self.is_told(self.with_names(4, names)), False)

    def test_rows_of_other_forms(self):
        for index, (function, behind, address, names) in enumerate(self.rows):
            for row in ((function, not behind, address, names), (function, int(behind), address, names),
                        [function, behind, address, names], (function, behind, list(address), names),
                        (function, behind, address), (function, behind, address, names, ()), ("g", behind, address, names),
                        (function, behind, address + (0,), names), (function, None, address, names),
                        ([function], behind, address, names), (function, behind, tuple(map(bool, address)), names)):
                self.assertIs(self.is_told(self.rows[:index] + [row] + self.rows[index + 1:]), False, row)

    def test_any_value(self):
        for thing in STRANGE + (tuple(self.rows), dict.fromkeys(self.rows), self.program):
            self.assertIs(self.is_told(thing), False)
            self.assertIs(self.is_told(self.rows + [thing]), False)
            self.assertIs(self.is_told(self.rows[1:] + [thing]), False)
            for part in range(4):
                row = (*self.rows[4][:part], thing, *self.rows[4][part + 1:])
                self.assertIs(self.is_told(self.rows[:4] + [row] + self.rows[5:]), repr(row) == repr(self.rows[4]))

    def test_rows_of_another_program(self):
        self.assertIs(are_watched_rows(main([]), self.rows), False)
        self.assertIs(self.is_told(watched_rows(main([]))), False)

    def test_each_list_is_new(self):
        kept = list(self.rows)
        self.rows.clear()
        self.assertEqual(watched_rows(self.program), kept)
        for asked in (lambda: alive(self.program, at(0)), lambda: watched(self.program, at(1), True),
                      lambda: passed(self.program, "f", True)):
            first = asked()
            want = list(first)
            first.append("spoiled")
            self.assertEqual(asked(), want)

    def test_are_watched_rows_changes_nothing(self):
        rows = list(self.rows)
        self.is_told(rows)
        self.assertEqual(rows, self.rows)


class Drawn(unittest.TestCase):
    def test_alive_by_hand(self):
        source = random.Random(511)
        for _ in range(150):
            program = drawn_program(source)
            for place in all_places(program):
                self.assertEqual(alive(program, place), alive_by_hand(program, place))

    def test_watched_is_what_ways_lead_to(self):
        source = random.Random(512)
        for k in range(90):
            program = drawn_program(source) if k % 2 else dense_program(source, ("p", "q", "r"))
            for place in all_places(program):
                names = program.names(place[0])
                looked = [name for name in names if steps_to_look(program, place, name) is not None]
                results = [name for name in names if steps_to_result(program, place, name) is not None]
                self.assertEqual(watched(program, place, False), looked)
                self.assertEqual(watched(program, place, True), sorted(set(looked + results)))

    def test_rows_beside_watched(self):
        source = random.Random(513)
        for _ in range(60):
            program = drawn_program(source)
            rows = watched_rows(program)
            self.assertEqual(rows, sorted(
                (function, told, address, tuple(watched(program, (function, address), told)))
                for function, address in all_places(program) for told in (False, True)))
            self.assertIs(are_watched_rows(program, rows), True)
            for function in program.functions():
                for told in (False, True):
                    names = watched(program, (function, (0,)), told)
                    want = [k for k, name in enumerate(program.parameters(function)) if name in names]
                    self.assertEqual(passed(program, function, told), want)

    def test_closed_rows_have_all_that_is_watched(self):
        source = random.Random(514)
        closed = 0
        for _ in range(60):
            program = drawn_program(source, most=5, names=("r", "s"))
            rows = watched_rows(program)
            for _ in range(20):
                told = [(f, b, a, tuple(n for n in program.names(f) if n in names or source.random() < 0.3))
                        for f, b, a, names in rows]
                less = [(f, b, a, tuple(n for n in names if source.random() < 0.9)) for f, b, a, names in told]
                for thing in (told, less):
                    if are_watched_rows(program, thing):
                        closed += 1
                        self.assertTrue(all(set(row[3]) <= set(other[3]) for row, other in zip(rows, thing)))
        self.assertGreater(closed, 100)


if __name__ == "__main__":
    unittest.main()
