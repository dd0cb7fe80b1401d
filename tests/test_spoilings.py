"""Steps that spoil [81], plain programs [6] and fewest steps [8]."""
import copy
import random
import time
import unittest

from sparetails.errors import TooMany
from sparetails.machine import Machine
from sparetails.moments import run_to
from sparetails.needless import lean, needless
from sparetails.places import statement_at
from sparetails.runs import wrong_look
from sparetails.spoilings import fewest_steps, first_spoiling, is_plain, spoilings
from sparetails.steps import spoiled
from sparetails.tables import Table
from tests.drawing import (
    PUT, Shadow, dense_program, drawn_data, drawn_machine, drawn_program, has_a_list_twice, listed_run, main, share_a_list, spoil,
)

MAIN = ((), False)
GROWINGS = ("exact", "spare")
GROWN = main([PUT, ("take", "t", "s"), ("put", "t", "t"), PUT, ("look", "t")])
AGAIN = main([("call", "s", "back", ("s",))], back=(
    ["p"], [("keep", "p"), ("loop", [("put", "q", "p"), ("take", "r", "q"), ("call", "r", "back", ("q",))])], "p"))
SETS = main([("cut", "a", "s"), ("cut", "b", "s"), ("set", "s"), ("look", "a"), ("look", "b")])
PLAIN = main([("call", "t", "f", ("s",)), ("look", "s"), ("look", "t")], f=(["p"], [("copyput", "q", "p")], "q"))
PROGRAMS = (GROWN, AGAIN, SETS, PLAIN, main([]))


def shadowed(program, run):
    """The first spoiling step as a Shadow tells it."""
    machine = Machine(program, run[0], run[1])
    shadow = Shadow(program, machine)
    for at, data in enumerate(run[2]):
        victim = shadow.victim(data)
        if victim is not None:
            return (at, *machine.here(), victim)
        shadow.step(data)
    return None


class FirstSpoiling(unittest.TestCase):
    def check(self, program, run, want):
        """The same for the run cut behind the step, in lists, and with more steps; nothing for the run cut ahead of it."""
        self.assertEqual(first_spoiling(program, run), want)
        told = listed_run(run)
        kept = copy.deepcopy(told)
        self.assertEqual(first_spoiling(program, told), want)
        self.assertEqual(told, kept)
        for many in range(len(run[2])):
            told = first_spoiling(program, (*run[:2], run[2][:many]))
            self.assertEqual(told, None if want is None or many <= want[0] else want)

    def test_drawn_runs(self):
        source = random.Random(81)
        found = {}
        for _ in range(400):
            program = dense_program(source, source.choice([("r", "s"), ("p", "r", "s"), ("p", "q", "r", "s")]))
            for growing in GROWINGS:
                machine = Machine(program, growing, [source.choice([1, 2, 3, 6]) for _ in program.names("main")])
                while len(machine) < 50 and not machine.is_over():
                    machine.step(drawn_data(source, program, machine))
                run = machine.run()
                want = shadowed(program, run)
                self.assertEqual(first_spoiling(program, run), want)
                self.assertEqual(first_spoiling(program, listed_run(run)), want)
                if want is None:
                    self.assertIsNone(wrong_look(program, run))
                else:
                    victim = want[3] if want[3] in "!^" else "name"
                    found[(growing, victim)] = found.get((growing, victim), 0) + 1
                    self.assertEqual(first_spoiling(program, (*run[:2], run[2][:want[0] + 1])), want)
                    self.assertIsNone(first_spoiling(program, (*run[:2], run[2][:want[0]])))
        self.assertEqual(len(found), 6)

    def test_the_example_of_a_put(self):
        self.check(GROWN, ("spare", (1, 1), ((1, 3), (), (1,), (1,), ())), (3, "main", (3,), "t"))
        self.check(GROWN, ("spare", (1, 1), ((1, 3), (), (1,), (2, 4), ())), None)
        self.check(GROWN, ("exact", (1, 1), ((1,), (), (1,), (1,), ())), None)

    def test_the_least_name_of_several(self):
        begins = (1, 1, 3)
        for cells, want in (((1, 1, 0), "a"), ((1, 3, 0), "a"), ((1, 3, 1), "b"), ((3, 1, 2), "a"), ((2, 2, 2), None)):
            data = ((cells[0],), (cells[1],), (cells[2],), (), ())
            self.check(SETS, ("exact", begins, data), None if want is None else (2, "main", (2,), want))

    def test_names_that_are_not_watched(self):
        program = main([("take", "a", "s"), ("take", "b", "s"), ("set", "s"), ("set", "a"), ("look", "b")])
        self.check(program, ("spare", (1, 1, 1), ((), (), (0,), (0,), ())), (2, "main", (2,), "b"))
        program = main([("take", "a", "s"), ("set", "s"), ("set", "a"), ("look", "s")])
        self.check(program, ("spare", (1, 1), ((), (0,), (0,), ())), (2, "main", (2,), "s"))

    def test_the_name_of_the_statement_itself(self):
        program = main([("cut", "t", "s"), ("put", "s", "t"), ("look", "s")])
        self.check(program, ("exact", (5, 1), ((2,), (1,), ())), None)
        program = main([("cut", "t", "s"), ("put", "t", "t"), ("look", "s")])
        self.check(program, ("exact", (5, 1), ((2,), (1,), ())), (1, "main", (1,), "s"))

    def test_a_put_that_moves_spoils_nothing(self):
        program = main([("cut", "t", "s"), ("put", "t", "t"), ("look", "s")])
        self.check(program, ("exact", (5, 1), ((2,), (4,), ())), None)
        self.check(program, ("exact", (5, 1), ((2,), (3,), ())), (1, "main", (1,), "s"))
        self.check(program, ("exact", (5, 1), ((5,), (3,), ())), None)
        program = main([("cut", "t", "s"), ("copyput", "t", "t"), ("look", "s")])
        self.check(program, ("exact", (5, 1), ((2,), (3,), ())), None)

    def test_what_came_into_the_store(self):
        program = main([("keep", "s"), ("cut", "s", "s"), ("set", "s"), ("put", "s", "s")])
        self.check(program, ("exact", (3,), ((), (2,), (1,), (1,))), (2, "main", (2,), "!"))
        program = main([("cut", "t", "s"), ("keep", "t"), ("put", "s", "t"), ("look", "s")])
        self.check(program, ("exact", (3, 1), ((2,), (), (1,), ())), None)
        program = main([("keep", "s"), ("cut", "t", "s"), ("put", "t", "t")])
        self.check(program, ("exact", (3, 1), ((), (2,), (1,))), (2, "main", (2,), "!"))
        self.check(program, ("exact", (3, 1), ((), (3,), (1,))), None)

    def test_names_come_ahead_of_the_store(self):
        program = main([("keep", "s"), ("take", "t", "s"), ("set", "s"), ("look", "t")])
        self.check(program, ("exact", (3, 1), ((), (), (0,), ())), (2, "main", (2,), "t"))

    def test_what_waits(self):
        told = (["p"], [("set", "p")], "p")
        program = main([("call", "t", "f", ("s",)), ("look", "s")], f=told)
        self.check(program, ("exact", (3, 1), ((), (0,), ())), (1, "f", (0,), "^"))
        program = main([("call", "s", "f", ("s",)), ("look", "s")], f=told)
        self.check(program, ("exact", (3,), ((), (0,), ())), None)

    def test_what_waits_further_out(self):
        program = main([("call", "t", "f", ("s",)), ("look", "s")], f=(["p"], [("call", "p", "g", ("p",))], "p"),
                       g=(["p"], [("set", "p")], "p"))
        self.check(program, ("exact", (3, 1), ((), (), (0,))), (2, "g", (0,), "^"))

    def test_the_store_as_it_was_when_the_call_began_and_since(self):
        told = (["p"], [("keep", "p"), ("set", "p")], "p")
        program = main([("keep", "s"), ("call", "s", "f", ("s",))], f=told)
        self.check(program, ("exact", (3,), ((), (), (), (0,), ())), (3, "f", (1,), "!"))
        program = main([("keep", "s"), ("call", "s", "f", ("s",))], f=(["p"], [("cut", "q", "p"), ("keep", "q"), ("set", "p")], "p"))
        self.check(program, ("exact", (3,), ((), (1,), (2,), (), (2,), ())), (4, "f", (2,), "^"))
        self.check(program, ("exact", (3,), ((), (1,), (2,), (), (1,), ())), (4, "f", (2,), "!"))

    def test_the_result_is_watched_or_not(self):
        f = (["p"], [("take", "q", "p"), ("set", "p")], "q")
        for body, want in (([("call", "t", "f", ("s",)), ("look", "t")], (2, "f", (1,), "q")), ([("call", "t", "f", ("s",))], None),
                           ([("call", "t", "f", ("s",)), ("look", "s")], (2, "f", (1,), "^"))):
            begins = (2,) * len(main(body, f=f).names("main"))
            self.check(main(body, f=f), ("exact", begins, ((1,), (), (0,))), want)

    def test_calls_of_themselves(self):
        # Within a call of itself a longer list is kept; then the same cell is put to once more.
        inner = ((1,), (), (1, 1), (), (0,), ())
        run = ("spare", (1,), ((1, 1), (), (1,), (1, 9), (), (1, 1), (), (1,), *inner, (1,), (1,), (), (1, 1)))
        self.check(AGAIN, run, (15, "back", (1, 0, 0), "!"))
        # The first call has a list without spare room, so that its puts move.
        run = ("spare", (1,), ((1, 1), (), (1,), (1, 9), (), (1, 1), (), (0,), (), (1,), (1, 9), (), (1, 1)))
        self.check(AGAIN, run, None)
        run = ("spare", (1,), ((1, 1), (), (1,), (1, 9), (), (1, 1), (), (1,), *inner, (0,), (), (1,), (1, 9)))
        self.check(AGAIN, run, None)


class LongRuns(unittest.TestCase):
    def test_a_loop_that_sets(self):
        begun = time.time()
        program = main([("loop", [("set", "s"), ("look", "s")]), ("take", "t", "s"), ("set", "s"), ("look", "t")])
        for growing in GROWINGS:
            data = [(1,), (3,), ()] * 65 + [(0,), (), (199,)]
            self.assertEqual(first_spoiling(program, (growing, (200, 1), data)), (197, "main", (2,), "t"))
            self.assertIsNone(first_spoiling(program, (growing, (200, 1), data[:-1])))
        self.assertLess(time.time() - begun, 5)

    def test_a_set_at_the_very_end_of_many_calls(self):
        begun = time.time()
        program = main([("call", "t", "f", ("s",)), ("look", "s")], f=(
            ["p"], [("either", [[("call", "q", "f", ("p",)), ("look", "p")], [("set", "p")]]), ("look", "q")], "p"))
        data = [(1,)] + [(0,), (1,)] * 99 + [(1,)]
        run = ("spare", (5, 1), data + [(4,)])
        self.assertEqual(len(run[2]), 201)
        self.assertEqual(first_spoiling(program, run), (200, "f", (0, 1, 0), "^"))
        self.assertIsNone(first_spoiling(program, (*run[:2], data)))
        self.assertLess(time.time() - begun, 5)

    def test_puts_in_a_loop(self):
        begun = time.time()
        program = main([("loop", [PUT, ("keep", "s")]), ("cut", "s", "s"), PUT])
        data = [(1,), (1, 150), (), *[(1,), (1,), ()] * 60, (0,)]
        run = ("spare", (1,), data + [(62,), (1,)])
        self.assertIsNone(first_spoiling(program, run))
        run = ("spare", (1,), data + [(61,), (1,)])
        self.assertEqual(first_spoiling(program, run), (len(data) + 1, "main", (2,), "!"))
        self.assertLess(time.time() - begun, 5)


class Spoilings(unittest.TestCase):
    def choices(self, program, machine):
        """The data of the next step, but for how far rooms go: all cells of a set, one mark for a put."""
        statement = statement_at(program, machine.here())
        if statement[0] == "set":
            return [(cell,) for cell in range(machine.wanted()[0][1] + 1)]
        return [(1,)]

    def check(self, program, growing, most=150):
        """Compares with what spoils first behind runs to the rows that spoil."""
        try:
            table = Table(program, growing, most=most)
        except TooMany:
            return []
        want = set()
        for row in table.rows():
            if spoiled(program, growing, row):
                run = run_to(program, growing, row)
                machine = Machine(program, *run[:2])
                for told in run[2]:
                    machine.step(told)
                for told in self.choices(program, machine):
                    found = first_spoiling(program, (*run[:2], (*run[2], told)))
                    if found is not None:
                        self.assertEqual(found[0], len(run[2]))
                        want.add(found[1:])
        told = spoilings(program, growing)
        self.assertEqual(told, sorted(want))
        self.assertIs(is_plain(program, growing), not want)
        costs = [table.entry_cost(*row[:2]) + table.cost(row) + 1 for row in table.spoiling()]
        self.assertEqual(fewest_steps(program, growing), min(costs, default=None))
        return told

    def test_programs(self):
        for program in PROGRAMS:
            for growing in GROWINGS:
                self.check(program, growing, 1000)

    def test_drawn_programs(self):
        source = random.Random(811)
        found = []
        while len(found) < 60:
            program = dense_program(source, source.choice([("r", "s"), ("p", "r", "s"), ("p", "q", "r", "s")]))
            for growing in GROWINGS:
                found += self.check(program, growing)
        self.assertEqual({victim for _, _, victim in found} & {"!", "^", "s"}, {"!", "^", "s"})

    def test_each_of_drawn_runs(self):
        source = random.Random(812)
        met = {}
        for _ in range(60):
            program = dense_program(source, ("p", "r", "s"))
            for growing in GROWINGS:
                try:
                    told = spoilings(program, growing)
                except TooMany:
                    continue
                fewest = fewest_steps(program, growing)
                for _ in range(15):
                    found = first_spoiling(program, drawn_machine(source, program, growing, 50).run())
                    if found is not None:
                        self.assertIn(found[1:], told)
                        self.assertGreaterEqual(found[0] + 1, fewest)
                        met[(repr(program.functions()), growing, *found[1:])] = True
        self.assertGreater(len(met), 15)

    def test_by_hand(self):
        self.assertEqual(spoilings(GROWN, "spare"), [("main", (3,), "t")])
        self.assertEqual(spoilings(GROWN, "exact"), [])
        self.assertEqual(spoilings(SETS, "exact"), [("main", (2,), "a"), ("main", (2,), "b")])
        self.assertEqual((fewest_steps(GROWN, "spare"), fewest_steps(GROWN, "exact"), fewest_steps(SETS, "spare")), (4, None, 3))
        self.assertEqual([is_plain(GROWN, growing) for growing in GROWINGS], [True, False])
        self.assertEqual([is_plain(PLAIN, growing) for growing in GROWINGS], [True, True])

    def test_a_set_whose_victims_hang_on_the_cell(self):
        program = main([("cut", "b", "s"), ("keep", "s"), ("cut", "s", "s"), ("set", "s"), ("look", "b")])
        self.assertEqual(spoilings(program, "exact"), [("main", (3,), "!"), ("main", (3,), "b")])
        program = main([("call", "t", "f", ("s",)), ("look", "s")], f=(
            ["p"], [("cut", "q", "p"), ("keep", "q"), ("cut", "q", "p"), ("set", "p"), ("look", "q")], "p"))
        self.assertEqual(spoilings(program, "exact"), [("f", (3,), "!"), ("f", (3,), "^"), ("f", (3,), "q")])

    def test_a_put_has_one_victim_in_each_row(self):
        program = main([("take", "b", "s"), ("keep", "s"), ("cut", "s", "s"), PUT, ("look", "b")])
        self.assertEqual(spoilings(program, "exact"), [("main", (3,), "b")])

    def test_programs_without_looks_and_keeps(self):
        source = random.Random(813)
        for _ in range(150):
            program = drawn_program(source, names=("r", "s"))
            told = {name: (parameters, self.blind(body), result) for name, (parameters, body, result) in program.functions().items()}
            program = main(told["main"][1], told["main"][2], **{name: one for name, one in told.items() if name != "main"})
            for growing in GROWINGS:
                self.assertEqual(spoilings(program, growing), [])
                self.assertIs(is_plain(program, growing), True)
                self.assertIsNone(fewest_steps(program, growing))

    def blind(self, body):
        told = []
        for item in body:
            if item[0] == "loop":
                told.append(("loop", self.blind(item[1])))
            elif item[0] == "either":
                told.append(("either", [self.blind(inner) for inner in item[1]]))
            elif item[0] not in ("look", "keep"):
                told.append(item)
        return told

    def test_lean_programs(self):
        source = random.Random(814)
        seen = {True: 0, False: 0}
        while min(seen.values()) < 15:
            program = drawn_program(source, names=("p", "r", "s"))
            if needless(program):
                for growing in GROWINGS:
                    plain = is_plain(program, growing, most=4000)
                    self.assertIs(is_plain(lean(program), growing, most=4000), plain)
                    seen[plain] += 1

    def test_plain_for_spare_room_is_plain_for_exact_room(self):
        source = random.Random(815)
        for _ in range(150):
            program = drawn_program(source, names=("r", "s"))
            if is_plain(program, "spare", most=4000):
                self.assertIs(is_plain(program, "exact", most=4000), True)

    def test_functions_that_are_not_called(self):
        program = main([], f=(["p"], [("take", "q", "p"), ("set", "q"), ("look", "p")], "q"))
        self.assertEqual((spoilings(program, "spare"), is_plain(program, "spare"), fewest_steps(program, "spare")), ([], True, None))

    def test_most(self):
        for program in PROGRAMS:
            for growing in GROWINGS:
                many = len(Table(program, growing))
                for asked in (spoilings, is_plain, fewest_steps):
                    self.assertEqual(asked(program, growing, most=many), asked(program, growing))
                    if many > 1:
                        with self.assertRaises(TooMany) as caught:
                            asked(program, growing, most=many - 1)
                        self.assertEqual(caught.exception.limit, many - 1)

    def test_a_thousand_if_nothing_is_said(self):
        names = "abcd"
        changes = [[("cut", one, other)] for one, other in zip(names, "bcda")] + [[("new", "a")], [("copyput", "b", "b")]]
        program = main([("loop", [("either", changes)])] + [("set", name) for name in names], "d")
        for asked in (spoilings, is_plain, fewest_steps):
            with self.assertRaises(TooMany) as caught:
                asked(program, "spare")
            self.assertEqual(caught.exception.limit, 1000)

    def test_the_same_again(self):
        for program in PROGRAMS:
            kept = program.functions()
            first = spoilings(program, "spare")
            want = list(first)
            self.assertFalse(share_a_list(first, spoilings(program, "spare")) or has_a_list_twice(first))
            spoil(first)
            self.assertEqual(spoilings(program, "spare"), want)
            self.assertEqual(program.functions(), kept)


if __name__ == "__main__":
    unittest.main()
