"""Closed tables [71], and what they tell of runs [5] to [9]."""
import random
import time
import unittest

from sparetails.errors import TooMany
from sparetails.machine import Machine
from sparetails.places import after, all_places, statement_at
from sparetails.shapes import is_shape
from sparetails.steps import begin_row, behind, called, followers, spoiled
from sparetails.tables import Table, is_closed
from sparetails.watching import alive
from tests.drawing import PUT, STRANGE, Shadow, dense_program, drawn_data, drawn_program, main, share_a_list, spoil

MAIN = ((), False)
GROWINGS = ("exact", "spare")

GROWN = main([PUT, ("take", "t", "s"), ("put", "t", "t"), PUT, ("look", "t")])
# A list that grows in a function that calls itself, and is kept there.
AGAIN = main([("call", "s", "back", ("s",))], back=(
    ["p"], [("keep", "p"), ("loop", [("put", "q", "p"), ("take", "r", "q"), ("call", "r", "back", ("q",))])], "p"))
LOOPED = main([("loop", [("cut", "t", "s"), ("either", [[PUT], [("put", "t", "t"), ("look", "t")]])]), ("look", "s")])
RESULT = main([("call", "t", "f", ("s",)), ("call", "u", "f", ("s",)), ("look", "t"), ("look", "u")],
              f=(["p"], [("put", "q", "p")], "q"))
# The entry that back comes to by calling itself twice is come to sooner by another function that is found later.
SOONER = main(
    [("either", [[("call", "s", "back", ("s",))], [PUT, ("keep", "s"), ("put", "t", "s"), ("call", "t", "first", ("t",))]])],
    back=AGAIN.functions()["back"], first=(["p"], [("call", "p", "back", ("p",))], "p"))
PROGRAMS = (SOONER, GROWN, AGAIN, LOOPED, RESULT, main([]), main([("loop", [])]))


class ByHand:
    """The least list with all that the document says, and the fewest steps, gone over again and again."""

    def __init__(self, program, growing):
        self.program, self.growing = program, growing
        self.costs = {begin_row(program, "main", MAIN): 0}
        self.begins = {("main", MAIN): 0}
        self.known = {}
        while self.round():
            pass

    def kind(self, row):
        statement = statement_at(self.program, (row[0], row[2]))
        return "end" if statement is None else statement[0]

    def found(self, query, *arguments):
        key = (query.__name__, *arguments)
        if key not in self.known:
            self.known[key] = query(self.program, *arguments)
        return self.known[key]

    def round(self):
        """Goes over all rows once; returns whether anything was found."""
        news = [False]

        def tell(costs, key, cost):
            if key not in costs or cost < costs[key]:
                costs[key] = cost
                news[0] = True

        for row, cost in list(self.costs.items()):
            if self.kind(row) == "call":
                call = self.found(called, row)
                tell(self.costs, self.found(begin_row, *call), 0)
                if row[:2] in self.begins:
                    tell(self.begins, call, self.begins[row[:2]] + cost + 1)
                for end, more in list(self.costs.items()):
                    if end[:2] == call and self.kind(end) == "end":
                        for one in self.found(behind, row, end):
                            tell(self.costs, one, cost + 1 + more + 1)
            else:
                for one in self.found(followers, self.growing, row):
                    tell(self.costs, one, cost + 1)
        return news[0]


class Tables(unittest.TestCase):
    def same(self, program, growing):
        table, hand = Table(program, growing, most=4000), ByHand(program, growing)
        rows = sorted(hand.costs)
        self.assertEqual(table.rows(), rows)
        self.assertEqual(len(table), len(rows))
        self.assertEqual(table.entries(), sorted(hand.begins))
        for row in rows:
            self.assertEqual(table.cost(row), hand.costs[row])
            self.assertIs(row in table, True)
        for function, entry in table.entries():
            self.assertEqual(table.entry_cost(function, entry), hand.begins[(function, entry)])
            ends = [row for row in rows if row[:2] == (function, entry) and hand.kind(row) == "end"]
            self.assertEqual(table.ends(function, entry), ends)
        for function, address in all_places(program):
            told = [row for row in rows if (row[0], row[2]) == (function, address)]
            self.assertEqual(table.rows_at(function, address), told)
        spoiling = [row for row in rows if spoiled(program, growing, row)]
        self.assertEqual(table.spoiling(), spoiling)
        self.assertIs(is_closed(program, growing, rows), not spoiling)
        return len(rows)

    def test_programs(self):
        for program in PROGRAMS:
            for growing in GROWINGS:
                self.same(program, growing)

    def test_drawn_programs(self):
        source = random.Random(71)
        for _ in range(40):
            program = drawn_program(source, names=("r", "s"))
            for growing in GROWINGS:
                self.same(program, growing)

    def test_dense_programs(self):
        source = random.Random(72)
        found = 0
        while found < 800:
            program = dense_program(source, ("p", "r", "s"), 9)
            for growing in GROWINGS:
                try:
                    Table(program, growing, most=120)
                except TooMany:
                    continue
                found += self.same(program, growing)

    def test_rows_have_their_form(self):
        source = random.Random(73)
        for _ in range(20):
            program = dense_program(source, ("r", "s"))
            try:
                rows = Table(program, "spare").rows()
            except TooMany:
                continue
            for function, entry, address, shape in rows:
                self.assertIs(is_shape(shape), True)
                names = [point for order in shape for level in order for point in level if point.isalpha()]
                self.assertEqual(sorted(names), alive(program, (function, address)))

    def test_the_example(self):
        self.assertEqual(Table(GROWN, "exact").spoiling(), [])
        self.assertEqual([row[2:] for row in Table(GROWN, "spare").spoiling()], [((3,), ((("s",), ("t",)),))])

    def test_a_small_table(self):
        table = Table(main([PUT, ("look", "s")]), "spare")
        rows = [("main", MAIN, (0,), ((("=", "s"),),)), ("main", MAIN, (1,), ((("s",),),)), ("main", MAIN, (2,), ((("s",),),))]
        self.assertEqual(table.rows(), rows)
        self.assertEqual([table.cost(row) for row in rows], [0, 1, 2])
        self.assertEqual((table.entries(), table.ends("main", MAIN), table.spoiling()), ([("main", MAIN)], rows[2:], []))
        self.assertEqual((table.rows_at("main", (1,)), table.entry_cost("main", MAIN)), (rows[1:2], 0))

    def test_costs_through_calls_that_call(self):
        program = main([PUT, ("call", "s", "f", ("s",)), ("look", "s")],
                       f=(["p"], [("look", "p"), ("call", "p", "g", ("p",))], "p"), g=(["p"], [("look", "p"), ("look", "p")], "p"))
        table = Table(program, "exact")
        costs = {(row[0], row[2]): table.cost(row) for row in table.rows()}
        self.assertEqual(costs, {
            ("main", (0,)): 0, ("main", (1,)): 1, ("main", (2,)): 8, ("main", (3,)): 9,
            ("f", (0,)): 0, ("f", (1,)): 1, ("f", (2,)): 5, ("g", (0,)): 0, ("g", (1,)): 1, ("g", (2,)): 2})
        self.assertEqual({call[0]: table.entry_cost(*call) for call in table.entries()}, {"main": 0, "f": 2, "g": 4})

    def test_costs_with_recursion(self):
        table = Table(AGAIN, "spare")
        self.assertEqual([table.entry_cost(*call) for call in table.entries()], [6, 1, 11, 0])
        self.assertEqual(max(table.cost(row) for row in table.rows()), 11)
        self.assertEqual(len(table), 34)

    def test_the_fewest_steps_of_a_run_may_be_found_late(self):
        table = Table(SOONER, "spare")
        entry = (((("^",), ("+0",)),), False)
        self.assertEqual((table.entry_cost("first", entry), table.entry_cost("back", entry)), (5, 6))
        self.assertEqual(Table(AGAIN, "spare").entry_cost("back", entry), 11)

    def test_functions_to_which_no_call_comes(self):
        program = main([PUT], f=(["p"], [("loop", [("call", "p", "f", ("p",))])], "p"))
        table = Table(program, "spare")
        self.assertEqual({row[0] for row in table.rows()}, {"main"})
        self.assertEqual((table.rows_at("f", (0,)), table.ends("f", (((("+0",),),), True))), ([], []))
        self.assertEqual(table.entries(), [("main", MAIN)])

    def test_behind_a_step_that_always_spoils_nothing_comes(self):
        program = main([("take", "t", "s"), ("set", "s"), ("look", "t"), ("look", "s")])
        table = Table(program, "exact")
        self.assertEqual(table.rows_at("main", (2,)), [])
        self.assertEqual(table.spoiling(), table.rows_at("main", (1,)))

    def test_spare_room_spoils_and_exact_room_does_not(self):
        for program, growing, want in ((GROWN, "exact", False), (GROWN, "spare", True), (RESULT, "exact", False),
                                       (RESULT, "spare", False), (AGAIN, "exact", False), (AGAIN, "spare", True)):
            self.assertEqual(bool(Table(program, growing).spoiling()), want)

    def test_the_same_again(self):
        for program in PROGRAMS:
            table, kept = Table(program, "spare"), program.functions()
            for asked in (table.rows, table.entries, table.spoiling, lambda: table.rows_at("main", (0,)),
                          lambda: table.ends("main", MAIN)):
                first = asked()
                want = list(first)
                self.assertFalse(share_a_list(first, asked()))
                spoil(first)
                self.assertEqual(asked(), want)
            self.assertEqual(program.functions(), kept)


class Most(unittest.TestCase):
    def test_just_enough_and_one_less(self):
        for program in PROGRAMS:
            for growing in GROWINGS:
                many = len(Table(program, growing))
                self.assertEqual(len(Table(program, growing, most=many)), many)
                if many > 1:
                    with self.assertRaises(TooMany) as caught:
                        Table(program, growing, most=many - 1)
                    self.assertEqual(caught.exception.limit, many - 1)

    def test_one(self):
        self.assertEqual(len(Table(main([]), "exact", most=1)), 1)
        with self.assertRaises(TooMany) as caught:
            Table(GROWN, "exact", most=1)
        self.assertEqual(caught.exception.limit, 1)

    def great_program(self):
        names = "abcd"
        changes = [[("cut", one, other)] for one, other in zip(names, "bcda")] + [[("new", "a")], [("copyput", "b", "b")]]
        return main([("loop", [("either", changes)])] + [("set", name) for name in names], "d")

    def test_a_thousand_if_nothing_is_said(self):
        program = self.great_program()
        with self.assertRaises(TooMany) as caught:
            Table(program, "spare")
        self.assertEqual(caught.exception.limit, 1000)

    def test_tables_of_some_hundreds_of_rows(self):
        begun = time.time()
        source = random.Random(74)
        found = 0
        while found < 3:
            program = dense_program(source, ("p", "q", "r", "s"))
            try:
                table = Table(program, "spare")
            except TooMany:
                continue
            if len(table) > 250:
                found += 1
                self.assertIs(is_closed(program, "spare", table.rows()), not table.spoiling())
        self.assertLess(time.time() - begun, 60)


class In(unittest.TestCase):
    def test_any_value(self):
        table = Table(AGAIN, "spare")
        for thing in STRANGE + (AGAIN, table, table.rows(), tuple(table.rows())):
            self.assertIs(thing in table, False)

    def test_rows_put_otherwise(self):
        table = Table(AGAIN, "spare")
        for row in table.rows():
            function, entry, address, shape = row
            self.assertIs(row in table, True)
            for thing in STRANGE:
                for k in range(4):
                    other = (*row[:k], thing, *row[k + 1:])
                    self.assertIs(other in table, repr(other) == repr(row) or (other in table.rows() and repr(other) in map(repr, table.rows())))
            for other in (list(row), row[:3], row + ((),), (function, list(entry), address, shape), (function, entry, list(address), shape),
                          (function, entry, address, list(shape)), (function, (entry[0], int(entry[1])), address, shape),
                          (function, entry, tuple(map(bool, address)), shape), (function, (list(entry[0]), entry[1]), address, shape),
                          (function, entry, address + (0,), shape), (function, entry, address, shape + ((("zz",),),))):
                self.assertIs(other in table, False)

    def test_rows_of_another_table(self):
        table = Table(GROWN, "exact")
        others = [row for row in Table(GROWN, "spare").rows() if row not in table.rows()]
        self.assertTrue(others)
        for row in others:
            self.assertIs(row in table, False)


class Closed(unittest.TestCase):
    def setUp(self):
        self.program = main([("call", "s", "f", ("s", "t")), ("look", "s"), ("look", "t")],
                            f=(["p", "q"], [("either", [[("put", "r", "p")], [("call", "r", "f", ("p", "q"))]]), ("keep", "q")], "r"))
        self.rows = Table(self.program, "exact").rows()

    def closed(self, thing, growing="exact"):
        return is_closed(self.program, growing, thing)

    def test_its_rows_in_any_order(self):
        self.assertGreater(len(self.rows), 8)
        self.assertIs(self.closed(self.rows), True)
        self.assertIs(self.closed(self.rows[::-1]), True)
        self.assertIs(self.closed(self.rows + self.rows[3:5]), True)
        shuffled = list(self.rows)
        random.Random(0).shuffle(shuffled)
        self.assertIs(self.closed(shuffled), True)

    def test_a_row_out(self):
        for at in range(len(self.rows)):
            self.assertIs(self.closed(self.rows[:at] + self.rows[at + 1:]), False)

    def test_no_row(self):
        self.assertIs(self.closed([]), False)

    def test_rows_more(self):
        end = ("main", MAIN, (3,), ((("!", "s"), ("=",)),))
        self.assertIs(self.closed(self.rows + [end]), True)
        look = ("main", MAIN, (2,), ((("s", "t"),),))
        self.assertEqual(followers(self.program, "exact", look), [("main", MAIN, (3,), ((("s",),),))])
        self.assertIs(self.closed(self.rows + [look]), False)
        self.assertIs(self.closed(self.rows + [look, ("main", MAIN, (3,), ((("s",),),))]), True)

    def test_calls_more_have_their_begins_and_what_comes_back(self):
        call = ("main", MAIN, (0,), ((("=", "s", "t"),),))
        self.assertIs(self.closed(self.rows + [call]), False)
        function, entry = called(self.program, call)
        begun = begin_row(self.program, function, entry)
        self.assertIs(self.closed(self.rows + [call, begun]), False)
        # All that it leads to, found by adding again and again what is out.
        rows = {*self.rows, call}
        while True:
            more = set()
            for row in rows:
                statement = statement_at(self.program, (row[0], row[2]))
                more |= set(followers(self.program, "exact", row))
                if statement is not None and statement[0] == "call":
                    told = called(self.program, row)
                    more.add(begin_row(self.program, *told))
                    for end in rows:
                        if end[:2] == told and statement_at(self.program, (end[0], end[2])) is None:
                            more |= set(behind(self.program, row, end))
            if more <= rows:
                break
            rows |= more
        self.assertIs(self.closed(sorted(rows)), True)
        for row in sorted(rows - set(self.rows)):
            rest = sorted(rows - {row})
            self.assertIs(self.closed(rest), row == call)

    def test_end_rows_that_need_not_be_reached(self):
        entry = [row for row in self.rows if row[0] == "f"][0][1]
        order = entry[0][0]
        end = ("f", entry, (2,), tuple(sorted([*entry[0], (("r",), ("=",))])))
        self.assertNotIn(end, self.rows)
        self.assertTrue(order)
        self.assertIs(self.closed(self.rows + [end]), False)

    def test_a_row_that_spoils(self):
        body = [("take", "t", "s"), ("put", "s", "s"), ("look", "t"), ("look", "s")]
        program = main(body)
        rows = Table(program, "exact").rows()
        self.assertIs(is_closed(program, "exact", rows), True)
        spoils = ("main", MAIN, (1,), ((("s",), ("t",)),))
        self.assertEqual(spoiled(program, "exact", spoils), ["t"])
        rest = followers(program, "exact", spoils)
        closed = rows + [spoils] + rest + [row for one in rest for row in followers(program, "exact", one)]
        closed += [row for one in list(closed) for row in followers(program, "exact", one)]
        self.assertIs(is_closed(program, "exact", closed), False)
        self.assertIs(is_closed(program, "exact", [row for row in closed if row != spoils]), True)

    def test_a_table_with_a_row_that_spoils(self):
        self.assertIs(is_closed(GROWN, "spare", Table(GROWN, "spare").rows()), False)
        self.assertIs(is_closed(GROWN, "exact", Table(GROWN, "exact").rows()), True)
        self.assertIs(is_closed(GROWN, "spare", Table(GROWN, "exact").rows()), False)

    def test_rows_of_another_growing_or_program(self):
        self.assertIs(is_closed(GROWN, "exact", self.rows), False)
        self.assertIs(self.closed(Table(GROWN, "exact").rows()), False)

    def test_any_value(self):
        for thing in STRANGE + (tuple(self.rows), dict.fromkeys(self.rows), self.program, Table(self.program, "exact")):
            self.assertIs(self.closed(thing), False)
        for thing in STRANGE:
            self.assertIs(self.closed(self.rows + [thing]), False)
            for k in range(4):
                row = (*self.rows[0][:k], thing, *self.rows[0][k + 1:])
                if row not in self.rows or repr(row) not in map(repr, self.rows):
                    self.assertIs(self.closed(self.rows + [row]), False, row)

    def test_the_list_stays(self):
        rows = list(self.rows)
        self.closed(rows)
        self.assertEqual(rows, self.rows)


class Forms(unittest.TestCase):
    """Rows of other forms beside a closed list, at a place from which nothing more is needed."""

    def setUp(self):
        self.program = main([("look", "s")], "a", f=(["p", "q"], [("look", "q")], "p"), g=(["p"], [("look", "p")], "p"))
        self.rows = Table(self.program, "spare").rows()

    def ends(self, function, entry, shape):
        address = (1,)
        return is_closed(self.program, "spare", self.rows + [(function, entry, address, shape)])

    def test_main(self):
        for shape in (((("a",),),), ((("=", "a"),),), ((("a",), ("=",)),), ((("!",), ("a",)),), ((("a",), ("!",), ("=",)),)):
            self.assertIs(self.ends("main", MAIN, shape), True)
        for shape in ((), ((("a", "s"),),), ((("s",),),), ((("=",), ("a",)),), ((("+0", "a"),),), ((("^", "a"),),), ((("a",),), (("s",),)),
                      ((("!",),), (("a",),)), ((("=",),), (("a",),)), ((("*", "a"),),), ((("a", "b"),),), (("a",),), ((("a",), ()),), ((),),
                      ((("=",), ("!", "a")),), ((("a",), ("=",), ("!",)),)):
            self.assertIs(self.ends("main", MAIN, shape), False, shape)

    def test_entries_of_main(self):
        for entry in (((), True), ((), 0), ((), 1), ((),), (((("+0",),),), False), [(), False], ((), False, ()), ([], False), None, ()):
            self.assertIs(self.ends("main", entry, ((("a",),),)), False)
        self.assertIs(self.ends("main", (((("+0",),),), False), ((("+0", "a"),),)), False)

    def test_points_stand_as_in_the_entry(self):
        entry = (((("+0",), ("+1", "=")),), True)
        for shape in (((("+0", "p"), ("+1", "=")),), ((("+0",), ("p",), ("+1", "=")),), ((("p",), ("+0",), ("!",), ("+1", "=")),),
                      ((("+0",), ("+1", "=")), (("p",),)), ((("!", "+0"), ("+1", "=", "p")),)):
            self.assertIs(self.ends("f", entry, tuple(sorted(shape))), True, shape)
        for shape in (((("+0", "p"), ("+1",)),), ((("+0", "p"), ("+1",), ("=",)),), ((("+0", "+1", "=", "p"),),), ((("+1", "="), ("+0", "p")),),
                      ((("+0", "p"),),), ((("p",),),), ((("+0", "p"), ("+1", "=", "^")),), ((("+0",), ("+1", "=")),),
                      ((("+0",),), (("+1", "=", "p"),)), ((("+0",), ("+1", "="), ("p",)),), ((("+0",), ("+1", "="), ("!",)), (("p",),)),
                      ((("+0",), ("+1", "=")), (("^", "p"),)), ((("+0",), ("+1", "=", "p", "q")),)):
            self.assertIs(self.ends("f", entry, tuple(sorted(shape))), False, shape)
        first, second = (("+1",), ("^",), ("=",)), (("^",), ("+0",))
        entry = ((first, second), False)
        for shape, want in (((first, (("^",), ("+0", "p"))), True), ((first, (("^",), ("p",), ("+0",))), True),
                            (((("+0", "p"),), first), False), (((("+0", "p"), ("^",)), first), False),
                            (((("+1",), ("^",)), (("^",), ("+0", "p"))), False), (((("+1",), ("=", "^")), (("^",), ("+0", "p"))), False)):
            self.assertIs(self.ends("f", entry, shape), want, shape)
        self.assertIs(self.ends("f", ((second, first), False), (first, (("^",), ("+0", "p")))), False)

    def test_entries_of_other_forms(self):
        shape = ((("+0", "p"),),)
        self.assertIs(self.ends("g", ((shape[0][:0] + (("+0",),),), False), shape), True)
        for entry in (((("+0",),), False), ((), False), (((("+0",),),), 1), (((("+0",),),),), (((("+0",),), (("+1",),)), False),
                      (((("+0", "p"),),), False), (((("+1",),),), False), (((("+0",),), (("=",),)), False), (((("!", "+0"),),), False),
                      (((("=",), ("+0",)),), False), (((("+0",),), (("^",),)), False)):
            told = ((("+0", "p"),),)
            self.assertIs(self.ends("g", entry, told), False, entry)
        # What stands in the rows is what stands in these entries, which are none.
        for more in ((("^",),), (("=",), ("^",)), (("^",), ("=",))):
            named = tuple(tuple(sorted(level + ("p",))) if "^" in level else level for level in more)
            self.assertIs(self.ends("g", (tuple(sorted([(("+0",),), more])), False), tuple(sorted([(("+0",),), named]))), False)
        for order in ((("=",), ("+0",)), (("!", "+0"),)):
            named = tuple(tuple(sorted(level + ("p",))) if "+0" in level else level for level in order)
            self.assertIs(self.ends("g", ((order,), False), (named,)), False)
        self.assertIs(self.ends("f", (((("+0",),),), False), ((("+0", "p"),),)), False)
        self.assertIs(self.ends("g", (((("+0",), ("+1",)),), False), ((("+0", "p"), ("+1",)),)), False)

    def test_places(self):
        for row in (("main", MAIN, (2,), ((("a",),),)), ("h", MAIN, (1,), ((("a",),),)), ("main", MAIN, (True,), ((("a",),),)),
                    ("main", MAIN, (), ((("a",),),)), ("main", MAIN, [1], ((("a",),),)), ["main", MAIN, (1,), ((("a",),),)]):
            self.assertIs(is_closed(self.program, "spare", self.rows + [row]), False)


class Runs(unittest.TestCase):
    """Drawn runs beside tables: [5], [6], [7], [8]."""

    def fewest(self, program, table):
        """The number of steps of a shortest run whose last step spoils, or None."""
        costs = [table.entry_cost(*row[:2]) + table.cost(row) + 1 for row in table.spoiling()]
        return min(costs, default=None)

    def check(self, source, program, table, growing, runs, met):
        """Goes along with runs until a step spoils; returns whether one did."""
        found = False
        fewest = self.fewest(program, table)
        spoiling = table.spoiling()
        for _ in range(runs):
            machine = Machine(program, growing, [source.choice([1, 2, 3, 6]) for _ in program.names("main")])
            shadow = Shadow(program, machine)
            while len(machine) < 60:
                row = shadow.row()
                self.assertIn(row, table, (program.functions(), machine.run()))
                met.add(row)
                self.assertGreaterEqual(shadow.steps_of_call(), table.cost(row))
                self.assertGreaterEqual(len(machine) - shadow.steps_of_call(), table.entry_cost(*row[:2]))
                if machine.is_over():
                    break
                data = drawn_data(source, program, machine)
                if shadow.victim(data) is not None:
                    self.assertIn(row, spoiling)
                    self.assertGreaterEqual(len(machine) + 1, fewest)
                    found = True
                    break
                shadow.step(data)
            if not spoiling:
                self.assertTrue(all(seen == plain for _, seen, plain in machine.looks()))
        return found

    def test_drawn_runs(self):
        source = random.Random(75)
        seen = {"spoiling": 0, "spoiled": 0, "rows": 0, "met": 0}
        for _ in range(50):
            program = dense_program(source, source.choice([("r", "s"), ("p", "r", "s")]))
            tables = {}
            for growing in GROWINGS:
                try:
                    tables[growing] = Table(program, growing)
                except TooMany:
                    continue
                met = set()
                seen["spoiled"] += self.check(source, program, tables[growing], growing, 15, met)
                seen["spoiling"] += bool(tables[growing].spoiling())
                seen["rows"] += len(tables[growing])
                seen["met"] += len(met)
            # What is plain with spare room is plain with exact room [9].
            if "spare" in tables and not tables["spare"].spoiling():
                self.assertEqual(Table(program, "exact", most=4000).spoiling(), [])
        self.assertGreater(seen["spoiled"], 10)
        self.assertGreater(3 * seen["spoiled"], 2 * seen["spoiling"])
        self.assertGreater(2 * seen["met"], seen["rows"])

    def test_each_row_is_met(self):
        source = random.Random(76)
        for program in (GROWN, LOOPED, RESULT, AGAIN):
            for growing in GROWINGS:
                table = Table(program, growing)
                met = set()
                for _ in range(40):
                    self.check(source, program, table, growing, 25, met)
                    if len(met) == len(table):
                        break
                self.assertEqual(sorted(met), table.rows())

    def test_a_program_that_is_not_plain_has_a_wrong_look(self):
        source = random.Random(77)
        for program in (GROWN, AGAIN):
            self.assertTrue(Table(program, "spare").spoiling())
            wrong = 0
            for _ in range(3000):
                machine = Machine(program, "spare", [1] * len(program.names("main")))
                while len(machine) < 40 and not machine.is_over():
                    machine.step(drawn_data(source, program, machine))
                wrong += any(seen != plain for _, seen, plain in machine.looks())
                if wrong:
                    break
            self.assertTrue(wrong)

    def test_the_fewest_steps_of_a_spoiling_run(self):
        self.assertEqual(self.fewest(GROWN, Table(GROWN, "spare")), 4)
        self.assertIsNone(self.fewest(GROWN, Table(GROWN, "exact")))
        # All runs step by step, with few data, until one spoils.
        for program, growing in ((LOOPED, "exact"), (LOOPED, "spare"), (AGAIN, "spare")):
            want = self.fewest(program, Table(program, growing))
            self.assertEqual(self.first_spoiled(program, growing, want), want)

    def first_spoiled(self, program, growing, most):
        """The number of steps of a shortest run whose last step spoils, among those of at most so many steps."""
        begins = [3] * len(program.names("main"))
        now = [()]
        for steps in range(most):
            later = {}
            for data in now:
                machine = Machine(program, growing, begins)
                shadow = Shadow(program, machine)
                for told in data:
                    shadow.step(told)
                if machine.is_over():
                    continue
                for told in self.choices(program, machine):
                    if shadow.victim(told) is not None:
                        return steps + 1
                    other = Machine(program, growing, begins)
                    for one in (*data, told):
                        other.step(one)
                    key = repr((other.calls(), other.store(), [other.room_of(w[0]) for w in other.names().values()]))
                    later[key] = (*data, told)
            now = list(later.values())
        return None

    def choices(self, program, machine):
        wanted = machine.wanted()
        if not wanted:
            return [()]
        statement = statement_at(program, machine.here())
        if statement[0] == "call":
            return [(1,) * len(wanted)]
        low, high = wanted[0]
        told = []
        for first in range(low, min(high, 3) + 1):
            told.append((first,))
            if machine.run()[0] == "spare" and statement[0] in ("put", "copyput"):
                array, length = machine.names()[statement[2]]
                if statement[0] == "copyput" or length + first > machine.room_of(array):
                    told[-1:] = [(first, length + first), (first, length + first + 3)]
        return told

    def test_after_is_where_a_call_comes_back(self):
        for row in Table(RESULT, "spare").rows():
            statement = statement_at(RESULT, (row[0], row[2]))
            if statement is not None and statement[0] == "call":
                for end in Table(RESULT, "spare").ends(*called(RESULT, row)):
                    for told in behind(RESULT, row, end):
                        self.assertEqual((told[0], told[2]), after(RESULT, (row[0], row[2])))
                        self.assertIn(told, Table(RESULT, "spare"))


if __name__ == "__main__":
    unittest.main()
