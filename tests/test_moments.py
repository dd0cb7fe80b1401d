"""Rows of moments of runs, and runs to rows [80]."""
import copy
import random
import unittest

from sparetails.errors import TooMany
from sparetails.machine import Machine
from sparetails.moments import row_of, run_to
from sparetails.programs import Program
from sparetails.runs import is_run, walk
from sparetails.tables import Table
from tests.drawing import PUT, STRANGE, Shadow, dense_program, drawn_data, listed_run, main

MAIN = ((), False)
GROWINGS = ("exact", "spare")
GROWN = main([PUT, ("take", "t", "s"), ("put", "t", "t"), PUT, ("look", "t")])
AGAIN = main([("call", "s", "back", ("s",))], back=(
    ["p"], [("keep", "p"), ("loop", [("put", "q", "p"), ("take", "r", "q"), ("call", "r", "back", ("q",))])], "p"))
TWO = main([("cut", "t", "s"), ("call", "r", "f", ("s", "t")), ("look", "s"), ("look", "t"), ("look", "r")], f=(
    ["p", "q"], [("either", [[("put", "p", "q")], [("call", "q", "f", ("q", "p"))], [("keep", "q")]]), ("cut", "p", "p")], "p"))
PROGRAMS = (GROWN, AGAIN, TWO, main([]), main([("loop", [])]))


class Shadowed:
    """A Machine and its Shadow, that do all steps of a run one after another."""

    def __init__(self, program, run):
        growing, begins, data = run
        self.machine = Machine(program, growing, begins)
        self.shadow = Shadow(program, self.machine)
        self.rows, self.victims = [self.shadow.row()], []
        for told in data:
            self.victims.append(self.shadow.victim(told))
            self.shadow.step(told)
            self.rows.append(self.shadow.row())


def drawn_run(source, program, growing, steps=40):
    machine = Machine(program, growing, [source.choice([1, 2, 3, 6]) for _ in program.names("main")])
    while len(machine) < steps and not machine.is_over():
        machine.step(drawn_data(source, program, machine))
    return machine.run()


class RowOf(unittest.TestCase):
    def check(self, program, run):
        """Compares the rows behind each step; returns how many steps there are ahead of one that spoils."""
        told = Shadowed(program, run)
        spoils = [at for at, victim in enumerate(told.victims) if victim is not None]
        for many in range(len(run[2]) + 1):
            want = None if spoils and spoils[0] < many else told.rows[many]
            self.assertEqual(row_of(program, (run[0], run[1], run[2][:many])), want, (program.functions(), run, many))
        return spoils[0] if spoils else None

    def test_drawn_runs(self):
        source = random.Random(80)
        spoiled, deep, over = 0, 0, 0
        for _ in range(160):
            program = dense_program(source, source.choice([("r", "s"), ("p", "r", "s")]))
            for growing in GROWINGS:
                run = drawn_run(source, program, growing)
                spoiled += self.check(program, run) is not None
                deep += max(len(Shadowed(program, (*run[:2], run[2][:many])).machine.calls()) for many in (5, 10, 20)) > 2
                over += Shadowed(program, run).machine.is_over()
        self.assertGreater(min(spoiled, deep, over), 8)

    def test_functions_that_call_themselves(self):
        source = random.Random(801)
        for program in (AGAIN, TWO):
            for growing in GROWINGS:
                for _ in range(15):
                    self.check(program, drawn_run(source, program, growing, 60))

    def test_a_run_of_no_step(self):
        self.assertEqual(row_of(main([PUT]), ("spare", (3,), ())), ("main", MAIN, (0,), ((("=", "s"),),)))
        self.assertEqual(row_of(main([("new", "s")]), ("exact", (3,), ())), ("main", MAIN, (0,), ()))

    def test_by_hand(self):
        run = ("spare", (1, 1), ((1, 3), (), (1,)))
        rows = [((0,), ((("=", "s"),),)), ((1,), ((("s",),),)), ((2,), ((("s", "t"),),)), ((3,), ((("s",), ("t",)),))]
        for many, (address, shape) in enumerate(rows):
            self.assertEqual(row_of(GROWN, (*run[:2], run[2][:many])), ("main", MAIN, address, shape))
        self.assertIsNone(row_of(GROWN, (*run[:2], run[2] + ((1,),))))
        self.assertIsNone(row_of(GROWN, (*run[:2], run[2] + ((1,), ()))))
        self.assertEqual(row_of(GROWN, (*run[:2], run[2] + ((5, 7),)))[3], ((("s",),), (("t",),)))

    def test_a_call_with_what_is_watched_outside(self):
        program = main([("cut", "t", "s"), ("call", "s", "f", ("s", "t")), ("look", "t"), ("look", "s"), ("keep", "a"), ("keep", "b")],
                       f=(["p", "q"], [("look", "p"), ("look", "q")], "p"))
        run = ("exact", (1, 1, 5, 1), ((3,), ()))
        self.assertEqual(row_of(program, run)[1], (((("+1", "^"), ("+0", "=")),), True))
        self.assertEqual(row_of(program, run)[3], ((("+1", "^", "q"), ("+0", "=", "p")),))
        run = ("exact", (1, 1, 5, 1), ((5,), ()))
        self.assertEqual(row_of(program, run)[1], (((("+0", "+1", "=", "^"),),), True))

    def test_the_store_as_it_was_when_the_call_began_and_since(self):
        program = main([("keep", "s"), ("call", "s", "f", ("s",))], f=(["p"], [("cut", "q", "p"), ("keep", "q")], "p"))
        run = ("spare", (3,), ((), (1,), (2,), (), ()))
        rows = [row_of(program, (*run[:2], run[2][:many])) for many in range(6)]
        self.assertEqual([row[3] for row in rows], [
            ((("=", "s"),),), ((("!", "=", "s"),),), ((("+0", "=", "^", "p"),),), ((("q",), ("+0", "=", "^", "p")),),
            ((("!",), ("+0", "=", "^", "p")),), ((("!", "=", "s"),),)])

    def test_lists_and_tuples(self):
        source = random.Random(802)
        for program in PROGRAMS:
            run = drawn_run(source, program, "spare", 20)
            told = listed_run(run)
            kept = copy.deepcopy(told)
            self.assertEqual(row_of(program, told), row_of(program, run))
            self.assertEqual(told, kept)

    def test_an_ended_run(self):
        run = ("exact", (2, 1), ((1,), (), (1,), (1,), ()))
        self.assertEqual(row_of(GROWN, run), ("main", MAIN, (5,), ((("=", "s"),),)))

    def test_lengths_of_hundreds(self):
        run = ("spare", (200, 1), ((200, 1000), (), (30,), (1000, 2000), ()))
        self.assertEqual(row_of(GROWN, run), ("main", MAIN, (5,), ((("s",),),)))


class RunTo(unittest.TestCase):
    def check(self, program, growing, most=90):
        """Asks for a run to each row of a table; returns how many there are."""
        try:
            table = Table(program, growing, most=most)
        except TooMany:
            return 0
        for row in table.rows():
            run = run_to(program, growing, row)
            self.assertEqual(run[0], growing)
            self.assertTrue(all(type(part) is tuple for part in (run, run[1], run[2], *run[2])))
            numbers = [*run[1], *[number for told in run[2] for number in told]]
            self.assertTrue(all(type(number) is int and 0 <= number <= 1000 for number in numbers))
            self.assertIs(is_run(program, run), True)
            self.assertEqual(len(run[2]), table.cost(row) + table.entry_cost(row[0], row[1]))
            told = Shadowed(program, run)
            self.assertEqual([victim for victim in told.victims if victim is not None], [])
            self.assertEqual(told.rows[-1], row)
            self.assertEqual(row_of(program, run), row)
            self.assertTrue(all(one in table for one in told.rows))
        return len(table)

    def test_each_row_of_some_programs(self):
        for program in PROGRAMS:
            for growing in GROWINGS:
                self.assertGreater(self.check(program, growing, 1000), 0)

    def test_each_row_of_drawn_programs(self):
        source = random.Random(803)
        rows = 0
        while rows < 1500:
            program = dense_program(source, source.choice([("r", "s"), ("p", "r", "s"), ("p", "q", "r", "s")]))
            for growing in GROWINGS:
                rows += self.check(program, growing)

    def test_results_laid_over_what_waits(self):
        """What comes back of a call can stand between all windows that were passed."""
        program = main([("cut", "t", "s"), ("cut", "u", "s"), ("call", "r", "f", ("s",)),
                        ("look", "r"), ("look", "s"), ("look", "t"), ("look", "u")], f=(["p"], [("cut", "q", "p")], "q"))
        self.assertGreater(self.check(program, "exact", 1000), 50)

    def test_what_is_kept_again_and_again(self):
        for body in ([("cut", "t", "s"), ("keep", "t"), ("keep", "s"), ("cut", "u", "s"), ("look", "s"), ("look", "u")],
                     [("keep", "s"), ("cut", "t", "s"), ("keep", "t"), ("cut", "u", "s"), ("look", "t"), ("look", "u")],
                     [("cut", "t", "s"), ("keep", "t"), ("put", "u", "t"), ("keep", "u"), ("cut", "t", "u"), ("keep", "t"), ("look", "t")]):
            for growing in GROWINGS:
                self.assertGreater(self.check(main(body), growing, 1000), 10)

    def test_what_is_kept_by_both(self):
        """The store has windows of the caller, and of the called function, one higher than the other."""
        f = (["p"], [("either", [[("cut", "q", "p"), ("keep", "q")], [("put", "q", "p"), ("keep", "q")], []])], "q")
        for body in ([("cut", "t", "s"), ("keep", "s"), ("call", "u", "f", ("t",)), ("look", "t"), ("look", "s"), ("look", "u")],
                     [("cut", "t", "s"), ("keep", "t"), ("call", "u", "f", ("s",)), ("cut", "t", "s"), ("look", "t"), ("look", "u")],
                     [("cut", "t", "s"), ("keep", "t"), ("call", "s", "f", ("t",)), ("call", "s", "f", ("s",)), ("look", "s")]):
            for growing in GROWINGS:
                self.assertGreater(self.check(main(body, f=f), growing, 1000), 20)

    def test_cuts_and_copies_that_need_long_windows(self):
        body = [("cut", "b", "a"), ("cut", "c", "b"), ("copy", "d", "c"), ("cut", "a", "d"), ("cut", "b", "a"), ("cut", "c", "b")]
        program = main(body + [("look", name) for name in "abcd"], "a")
        table = Table(program, "spare")
        row = [row for row in table.rows_at("main", (6,)) if row[3] == ((("c",), ("b",), ("a",), ("=", "d")),)][0]
        run = run_to(program, "spare", row)
        self.assertEqual(row_of(program, run), row)
        begins, data = run[1:]
        self.assertGreater(data[0][0], 3)
        self.assertGreaterEqual(begins[0], data[0][0])

    def test_no_step(self):
        self.assertEqual(run_to(GROWN, "spare", ("main", MAIN, (0,), ((("=", "s"),),))), ("spare", (1, 1), ()))

    def test_rows_that_are_none_of_the_table(self):
        spare = Table(GROWN, "spare").rows()
        exact = Table(GROWN, "exact").rows()
        for row in set(spare) - set(exact):
            self.assertIsNone(run_to(GROWN, "exact", row))
        for row in set(exact) - set(spare):
            self.assertIsNone(run_to(GROWN, "spare", row))
        for row in Table(AGAIN, "spare").rows():
            if row not in spare:
                self.assertIsNone(run_to(GROWN, "spare", row))

    def test_any_other_tuple_of_four(self):
        row = ("main", MAIN, (0,), ((("=", "s"),),))
        for thing in STRANGE:
            self.assertIsNone(run_to(GROWN, "spare", (thing,) * 4))
            for k in range(4):
                other = (*row[:k], thing, *row[k + 1:])
                if repr(other) != repr(row):
                    self.assertIsNone(run_to(GROWN, "spare", other))
        for other in (("main", [(), False], (0,), row[3]), ("main", ((), 0), (0,), row[3]), ("main", MAIN, (False,), row[3]),
                      ("main", MAIN, [0], row[3]), ("main", MAIN, (0,), list(row[3])), ("f", MAIN, (0,), row[3])):
            self.assertIsNone(run_to(GROWN, "spare", other))

    def test_most(self):
        for program in PROGRAMS:
            for growing in GROWINGS:
                rows = Table(program, growing).rows()
                self.assertIsNotNone(run_to(program, growing, rows[-1], most=len(rows)))
                if len(rows) > 1:
                    for row in (rows[0], rows[-1], (None, [], {}, ())):
                        with self.assertRaises(TooMany) as caught:
                            run_to(program, growing, row, most=len(rows) - 1)
                        self.assertEqual(caught.exception.limit, len(rows) - 1)

    def test_a_thousand_if_nothing_is_said(self):
        names = "abcd"
        changes = [[("cut", one, other)] for one, other in zip(names, "bcda")] + [[("new", "a")], [("copyput", "b", "b")]]
        program = main([("loop", [("either", changes)])] + [("set", name) for name in names], "d")
        with self.assertRaises(TooMany) as caught:
            run_to(program, "spare", ("main", MAIN, (0,), ()))
        self.assertEqual(caught.exception.limit, 1000)

    def test_the_same_again(self):
        for program in PROGRAMS:
            functions = program.functions()
            for row in Table(program, "spare").rows()[:5]:
                self.assertEqual(run_to(program, "spare", row), run_to(Program(functions), "spare", row))
            self.assertEqual(program.functions(), functions)

    def test_deep_calls(self):
        """A row that only a call within calls comes to."""
        table = Table(AGAIN, "spare")
        row = max(table.rows(), key=lambda one: table.entry_cost(one[0], one[1]) + table.cost(one))
        run = run_to(AGAIN, "spare", row)
        self.assertEqual(len(run[2]), table.entry_cost(row[0], row[1]) + table.cost(row))
        self.assertGreater(len(run[2]), 15)
        self.assertEqual(list(walk(AGAIN, run))[-1], (row[0], row[2]))


if __name__ == "__main__":
    unittest.main()
