"""Which functions may stand for others [92], [11]."""
import random
import unittest

from sparetails.errors import Endless, NoFunction, TooMany, Unlike
from sparetails.places import all_places, statement_at
from sparetails.programs import Program
from sparetails.shapes import is_shape
from sparetails.spoilings import is_plain
from sparetails.standing import bar, outcomes, stands_for, with_calls
from sparetails.steps import all_entries, begin_row, behind, called, followers, spoiled
from sparetails.tables import Table
from sparetails.watching import passed
from tests.drawing import STRANGE, dense_program, has_a_list_twice, main, share_a_list, spoil

GROWINGS = ("exact", "spare")
ONE = (((("+0",),),), False)
# Calls of no function here come from main, if nothing else is said.
PUTS = (["p"], [("put", "q", "p")], "q")
COPIES = (["p"], [("copyput", "q", "p")], "q")
SETS = (["p"], [("set", "p")], "p")
LOOKS = (["p"], [("look", "p")], "p")
BACK = (["p"], [("keep", "p"), ("loop", [("put", "q", "p"), ("call", "r", "f", ("q",))])], "p")


class Closed:
    """The rows to which a call leads, gone over again and again."""

    def __init__(self, program, growing, function, entry):
        self.program = program
        self.rows = {begin_row(program, function, entry)}
        self.known = {}
        while True:
            more = set()
            for row in self.rows:
                if self.kind(row) == "call":
                    call = self.ask(called, row)
                    more.add(self.ask(begin_row, *call))
                    for end in self.rows:
                        if end[:2] == call and self.kind(end) == "end":
                            more |= set(self.ask(behind, row, end))
                else:
                    more |= set(self.ask(followers, growing, row))
            if more <= self.rows:
                break
            self.rows |= more
        self.spoils = any(spoiled(program, growing, row) for row in self.rows)
        self.ends = [row for row in self.rows if row[:2] == (function, entry) and self.kind(row) == "end"]

    def ask(self, query, *arguments):
        key = (query.__name__, *arguments)
        if key not in self.known:
            self.known[key] = query(self.program, *arguments)
        return self.known[key]

    def kind(self, row):
        statement = statement_at(self.program, (row[0], row[2]))
        return "end" if statement is None else statement[0]

    def outcomes(self):
        """What outcomes is to return."""
        if self.spoils:
            return None
        told = set()
        for function, _, _, shape in self.ends:
            result = self.program.result(function)
            told.add(tuple(sorted(
                tuple(tuple(sorted("*" if point == result else point for point in level)) for level in order) for order in shape)))
        return sorted(told)


class Outcomes(unittest.TestCase):
    def test_no_parameter(self):
        program = main([], f=([], [], "a"), g=([], [("new", "a"), ("put", "a", "a")], "a"))
        for told in (False, True):
            self.assertEqual(outcomes(program, "exact", "f", ((), told)), [((("*", "="),),)])
            self.assertEqual(outcomes(program, "spare", "g", ((), told)), [((("*",),),)])
            self.assertEqual(outcomes(program, "exact", "g", ((), told)), [((("*", "="),),)])

    def test_one_parameter(self):
        program = main([], f=PUTS, g=COPIES)
        self.assertEqual(outcomes(program, "exact", "f", ONE), [((("*", "="),), (("+0",),)), ((("+0",), ("*",)),)])
        self.assertEqual(outcomes(program, "spare", "f", ONE), [((("*",),), (("+0",),)), ((("+0",), ("*",)),)])
        self.assertEqual(outcomes(program, "exact", "g", ONE), [((("*", "="),), (("+0",),))])
        self.assertEqual(outcomes(program, "exact", "f", (((("+0", "="),),), True)), [((("*", "="),), (("+0", "="),))])

    def test_a_result_that_is_a_parameter_or_shares_with_one(self):
        program = main([], f=(["p", "q"], [], "q"), g=(["p", "q"], [("cut", "p", "q")], "p"))
        entry = (((("+0",), ("+1", "=")),), False)
        self.assertEqual(outcomes(program, "exact", "f", entry), [((("+0",), ("*", "+1", "=")),)])
        self.assertEqual(outcomes(program, "exact", "g", entry), [
            ((("*",), ("+0",), ("+1", "=")),), ((("*", "+0"), ("+1", "=")),), ((("+0",), ("*",), ("+1", "=")),), ((("+0",), ("*", "+1", "=")),)])

    def test_what_is_kept(self):
        program = main([], f=(["p"], [("keep", "p"), ("copy", "q", "p"), ("keep", "q")], "q"))
        self.assertEqual(outcomes(program, "spare", "f", ONE), [((("!", "*", "="),), (("!", "+0"),))])

    def test_none(self):
        program = main([], f=SETS)
        self.assertEqual(outcomes(program, "exact", "f", ONE), [((("*", "+0"),),)])
        for outside, want in (((("+0", "^"),), None), ((("+0",), ("^",)), None), ((("^",), ("+0",)), None)):
            self.assertEqual(outcomes(program, "exact", "f", ((outside,), False)), want)
        program = main([], f=(["p"], [("put", "p", "p")], "p"))
        self.assertIsNone(outcomes(program, "exact", "f", (((("+0",), ("^",)),), False)))
        self.assertIsNotNone(outcomes(program, "exact", "f", (((("+0", "^"),),), False)))

    def test_a_called_function_that_spoils(self):
        program = main([], f=(["p"], [("call", "q", "g", ("p",)), ("look", "p")], "q"), g=SETS)
        self.assertIsNone(outcomes(program, "exact", "f", ONE))
        program = main([], f=(["p"], [("call", "p", "g", ("p",)), ("look", "p")], "p"), g=SETS)
        self.assertEqual(outcomes(program, "exact", "f", ONE), [((("*", "+0"),),)])

    def test_the_result_is_watched_or_not(self):
        program = main([], f=(["p"], [("take", "q", "p"), ("set", "p")], "q"))
        self.assertEqual(outcomes(program, "exact", "f", ONE), [((("*", "+0"),),)])
        self.assertIsNone(outcomes(program, "exact", "f", (ONE[0], True)))

    def test_entries_to_which_the_program_does_not_come(self):
        program = main([("call", "s", "f", ("s",)), ("look", "s")], f=PUTS)
        entries = [entry for _, entry in Table(program, "exact").entries()]
        self.assertNotIn(ONE, entries)
        self.assertEqual(len(outcomes(program, "exact", "f", ONE)), 2)

    def test_all_entries(self):
        for told in (PUTS, COPIES, SETS, LOOKS, BACK):
            program = main([("call", "s", "f", ("s",))], f=told)
            for growing in GROWINGS:
                for entry in all_entries(1):
                    found = outcomes(program, growing, "f", entry)
                    self.assertEqual(found, Closed(program, growing, "f", entry).outcomes())
                    self.assertTrue(found is None or all(is_shape(one) for one in found))

    def test_drawn_programs(self):
        source = random.Random(92)
        seen = {"none": 0, "some": 0}
        while min(seen.values()) < 40:
            program = dense_program(source, source.choice([("r", "s"), ("p", "r", "s")]), 8)
            for function in program.functions():
                if function == "main":
                    continue
                entries = all_entries(len(program.parameters(function)))
                for entry in source.sample(entries, 4):
                    growing = source.choice(GROWINGS)
                    try:
                        found = outcomes(program, growing, function, entry, most=80)
                    except TooMany:
                        continue
                    self.assertEqual(found, Closed(program, growing, function, entry).outcomes())
                    seen["none" if found is None else "some"] += 1

    def test_most(self):
        for told in (PUTS, SETS, BACK):
            program = main([], f=told)
            for growing in GROWINGS:
                for entry in all_entries(1):
                    many = len(Closed(program, growing, "f", entry).rows)
                    self.assertEqual(outcomes(program, growing, "f", entry, most=many), outcomes(program, growing, "f", entry))
                    if many > 1:
                        # Ahead of what spoils.
                        with self.assertRaises(TooMany) as caught:
                            outcomes(program, growing, "f", entry, most=many - 1)
                        self.assertEqual(caught.exception.limit, many - 1)

    def test_a_thousand_if_nothing_is_said(self):
        names = "abcd"
        changes = [[("cut", one, other)] for one, other in zip(names, "bcda")] + [[("new", "a")], [("copyput", "b", "b")]]
        body = [("loop", [("either", changes)])] + [("set", name) for name in names]
        program = main([], f=([], body, "d"), g=([], [], "d"))
        for asked in (lambda: outcomes(program, "spare", "f", ((), False)), lambda: bar(program, "g", "f", "spare"),
                      lambda: stands_for(program, "f", "g", "spare")):
            with self.assertRaises(TooMany) as caught:
                asked()
            self.assertEqual(caught.exception.limit, 1000)

    def test_the_same_again(self):
        program = main([], f=PUTS)
        kept = program.functions()
        first = outcomes(program, "exact", "f", ONE)
        want = list(first)
        self.assertFalse(share_a_list(first, outcomes(program, "exact", "f", ONE)) or has_a_list_twice(first))
        spoil(first)
        self.assertEqual(outcomes(program, "exact", "f", ONE), want)
        self.assertEqual(program.functions(), kept)


def by_hand(program, one, other, growing):
    """What bar is to return, by the words of the document."""
    for told in (False, True):
        for k in range(len(program.parameters(one))):
            if k in passed(program, one, told) and k not in passed(program, other, told):
                return ("watched", told, k)
    found = []
    for entry in all_entries(len(program.parameters(one))):
        found.append((entry, outcomes(program, growing, one, entry), outcomes(program, growing, other, entry)))
    for entry, mine, its in found:
        if its is not None and mine is None:
            return ("spoils", entry)
    for entry, mine, its in found:
        if its is not None:
            for outcome in mine:
                if outcome not in its:
                    return ("outcome", entry, outcome)
    return None


class Bars(unittest.TestCase):
    def check(self, program, one, other, growing):
        told = bar(program, one, other, growing)
        self.assertEqual(told, by_hand(program, one, other, growing))
        self.assertIs(stands_for(program, one, other, growing), told is None)
        return told

    def test_a_parameter_that_is_watched(self):
        program = main([], f=LOOKS, g=(["p"], [], "q"))
        self.assertEqual(self.check(program, "f", "g", "exact"), ("watched", False, 0))
        program = main([], f=(["p"], [], "p"), g=(["p"], [], "q"))
        self.assertEqual(self.check(program, "f", "g", "exact"), ("watched", True, 0))

    def test_false_ahead_of_true(self):
        program = main([], f=(["p", "q"], [("look", "q")], "p"), g=(["p", "q"], [], "r"))
        self.assertEqual(self.check(program, "f", "g", "exact"), ("watched", False, 1))
        program = main([], f=(["p", "q"], [("keep", "q"), ("look", "p")], "r"), g=(["p", "q"], [], "r"))
        self.assertEqual(self.check(program, "f", "g", "exact"), ("watched", False, 0))
        program = main([], f=(["p", "q"], [("keep", "q"), ("look", "p")], "r"), g=(["p", "q"], [("look", "p")], "q"))
        self.assertEqual(self.check(program, "f", "g", "exact"), ("watched", False, 1))
        program = main([], f=(["p", "q"], [("either", [[("take", "p", "q")], []])], "p"), g=(["p", "q"], [], "p"))
        self.assertEqual(self.check(program, "f", "g", "exact"), ("watched", True, 1))

    def test_the_least_entry_that_spoils(self):
        program = main([], f=SETS, g=(["p"], [], "p"))
        told = self.check(program, "f", "g", "exact")
        self.assertEqual(told[0], "spoils")
        first = [entry for entry in all_entries(1) if outcomes(program, "exact", "f", entry) is None][0]
        self.assertEqual(told[1], first)

    def test_the_least_outcome(self):
        program = main([], f=PUTS, g=COPIES)
        told = self.check(program, "f", "g", "spare")
        self.assertEqual(told[0], "spoils")
        program = main([], f=(["p"], [("cut", "q", "p")], "q"), g=(["p"], [], "p"))
        self.assertEqual(self.check(program, "f", "g", "exact"), ("outcome", all_entries(1)[0], outcomes(program, "exact", "f", all_entries(1)[0])[0]))

    def test_spoils_ahead_of_outcome_at_a_lesser_entry(self):
        program = main([], f=(["p"], [("cut", "q", "p"), ("put", "r", "q"), ("look", "p")], "q"),
                       g=(["p"], [("either", [[("look", "p")], []])], "p"))
        for growing in GROWINGS:
            told = self.check(program, "f", "g", growing)
            self.assertEqual(told[0], "spoils")
        program = main([], f=(["p"], [("copy", "q", "p"), ("put", "p", "p")], "q"), g=(["p"], [("look", "p")], "p"))
        told = self.check(program, "f", "g", "exact")
        at = all_entries(1).index(told[1])
        self.assertEqual(told[0], "spoils")
        earlier = all_entries(1)[:at]
        self.assertTrue(any(outcomes(program, "exact", "f", entry) != outcomes(program, "exact", "g", entry) for entry in earlier))

    def test_none(self):
        program = main([], f=COPIES, g=PUTS)
        for growing in GROWINGS:
            self.assertIsNone(self.check(program, "f", "g", growing))
        program = main([], f=(["p"], [("copy", "q", "p")], "q"), g=(["p"], [("either", [[], [("copycut", "p", "p")]])], "p"))
        self.assertIsNone(self.check(program, "f", "g", "spare"))

    def test_where_other_spoils_all_may_be(self):
        program = main([], f=(["p"], [("set", "p"), ("cut", "q", "p"), ("look", "p")], "q"),
                       g=(["p"], [("take", "q", "p"), ("set", "q"), ("look", "p")], "q"))
        self.assertTrue(all(outcomes(program, "exact", "g", entry) is None for entry in all_entries(1)))
        self.assertIsNone(self.check(program, "f", "g", "exact"))

    def test_one_and_other_the_same(self):
        for told in (PUTS, SETS, LOOKS, BACK, ([], [], "s"), (["p", "q"], [("put", "p", "q")], "p")):
            program = main([], f=told)
            self.assertIsNone(bar(program, "f", "f", "exact"))
            self.assertIs(stands_for(program, "f", "f", "spare"), True)

    def test_drawn_programs(self):
        source = random.Random(921)
        found = {}
        while sum(found.values()) < 40 or len(found) < 4:
            program = dense_program(source, ("r", "s"), 6)
            names = [name for name in program.functions() if name != "main"]
            if len(names) < 2 or len({len(program.parameters(name)) for name in names}) > 1 or len(program.parameters("f")) > 1:
                continue
            for one, other in (names, names[::-1]):
                growing = source.choice(GROWINGS)
                told = self.check(program, one, other, growing)
                found[told and told[0]] = found.get(told and told[0], 0) + 1

    def test_two_parameters(self):
        program = main([], f=(["p", "q"], [("copyput", "r", "q")], "r"), g=(["a", "b"], [("put", "a", "b")], "a"))
        self.assertIsNone(self.check(program, "f", "g", "exact"))
        self.assertEqual(self.check(program, "g", "f", "exact")[0], "spoils")

    def test_entries_are_looked_at_up_to_the_first_that_spoils(self):
        program = main([], f=BACK, g=(["p"], [("keep", "p")], "p"))
        for growing in GROWINGS:
            told = bar(program, "f", "g", growing)
            if told[0] == "spoils":
                needed = 0
                for entry in all_entries(1):
                    needed = max(needed, len(Closed(program, growing, "g", entry).rows))
                    if outcomes(program, growing, "g", entry) is not None:
                        needed = max(needed, len(Closed(program, growing, "f", entry).rows))
                    if entry == told[1]:
                        break
                self.assertEqual(bar(program, "f", "g", growing, most=needed), told)
                with self.assertRaises(TooMany) as caught:
                    bar(program, "f", "g", growing, most=needed - 1)
                self.assertEqual(caught.exception.limit, needed - 1)
                greatest = max(len(Closed(program, growing, "f", entry).rows) for entry in all_entries(1))
                self.assertLess(needed, greatest)

    def test_one_is_looked_at_only_where_other_has_outcomes(self):
        program = main([], f=BACK, g=(["p"], [("take", "q", "p"), ("set", "q"), ("look", "p")], "p"))
        most = max(len(Closed(program, "spare", "g", entry).rows) for entry in all_entries(1))
        self.assertIs(stands_for(program, "f", "g", "spare", most=most), True)
        with self.assertRaises(TooMany):
            stands_for(program, "f", "f", "spare", most=most)
        with self.assertRaises(TooMany):
            stands_for(program, "f", "g", "spare", most=most - 1)

    def test_what_is_watched_needs_no_table(self):
        program = main([], f=LOOKS, g=(["p"], [], "q"))
        self.assertEqual(bar(program, "f", "g", "exact", most=1), ("watched", False, 0))
        with self.assertRaises(TooMany):
            bar(program, "g", "f", "exact", most=1)


class Asked(unittest.TestCase):
    """What bar, stands_for and with_calls raise."""

    def setUp(self):
        self.program = main([("call", "s", "f", ("s",))], f=PUTS, g=(["p", "q"], [], "p"))

    def each(self, one, other):
        return (lambda: bar(self.program, one, other, "exact", most=1), lambda: stands_for(self.program, one, other, "spare", most=1),
                lambda: with_calls(self.program, other, one))

    def test_no_function(self):
        for one, other, want in (("h", "f", "h"), ("f", "h", "h"), ("h", "k", "h"), ("main", "f", "main"), ("f", "main", "main"),
                                 ("h", "main", "h"), ("main", "h", "main"), ("g", "h", "h"), ("main", "main", "main")):
            for asked in self.each(one, other):
                with self.assertRaises(NoFunction) as caught:
                    asked()
                self.assertEqual(caught.exception.name, want)

    def test_unlike(self):
        for one, other in (("f", "g"), ("g", "f")):
            for asked in self.each(one, other):
                with self.assertRaises(Unlike):
                    asked()


class WithCalls(unittest.TestCase):
    def test_calls_everywhere_but_in_one(self):
        call = ("call", "s", "g", ("s",))
        program = main([call, ("loop", [("either", [[call], [("call", "s", "f", ("s",))]])])], f=(["s"], [("either", [[call], []])], "s"), g=(["s"], [], "s"))
        told = with_calls(program, "g", "f")
        functions = told.functions()
        self.assertEqual(functions["f"], program.functions()["f"])
        turned = ("call", "s", "f", ("s",))
        self.assertEqual(functions["main"], ([], [turned, ("loop", [("either", [[turned], [turned]])])], "s"))
        self.assertEqual(functions["g"], program.functions()["g"])

    def test_calls_of_other_in_its_own_body(self):
        program = main([("call", "s", "f", ())], f=([], [("either", [[("call", "s", "f", ())], []])], "s"), g=([], [], "t"))
        told = with_calls(program, "f", "g")
        self.assertEqual(told.functions()["f"][1], [("either", [[("call", "s", "g", ())], []])])
        self.assertEqual(told.calls("main"), ["g"])

    def test_what_program_raises_behind_it(self):
        program = main([("call", "s", "g", ())], f=([], [("call", "s", "g", ())], "s"), g=([], [("either", [[("call", "s", "g", ())], []])], "s"))
        self.assertEqual(with_calls(program, "g", "f").calls("main"), ["f"])
        program = main([("call", "s", "g", ())], f=([], [("call", "s", "g", ())], "s"), g=([], [("call", "s", "h", ())], "s"), h=([], [], "s"))
        self.assertEqual(with_calls(program, "h", "g").calls("main"), ["g"])
        with self.assertRaises(Endless) as caught:
            with_calls(program, "h", "f")
        self.assertEqual(caught.exception.function, "f")
        self.assertEqual(program.calls("g"), ["h"])

    def test_one_and_other_the_same(self):
        program = main([("call", "s", "f", ("s",))], f=PUTS)
        self.assertEqual(with_calls(program, "f", "f"), program)

    def test_drawn_programs(self):
        source = random.Random(922)
        done = 0
        while done < 40:
            program = dense_program(source, ("r", "s"))
            names = [name for name in program.functions() if name != "main"]
            if len(names) < 2 or len({len(program.parameters(name)) for name in names}) > 1:
                continue
            try:
                told = with_calls(program, "g", "f")
            except Endless:
                continue
            for place in all_places(program):
                statement = statement_at(program, place)
                if statement is not None and statement[0] == "call":
                    want = statement if place[0] == "f" else (*statement[:2], "f", statement[3])
                    self.assertEqual(statement_at(told, place), want)
            done += 1


class Guarantee(unittest.TestCase):
    def test_a_plain_program_stays_plain(self):
        source = random.Random(923)
        done = 0
        while done < 4:
            program = dense_program(source, ("r", "s"), 7)
            names = [name for name in program.functions() if name != "main"]
            growing = source.choice(GROWINGS)
            try:
                if len(names) < 2 or not is_plain(program, growing) or not stands_for(program, names[0], names[1], growing, most=200):
                    continue
                told = with_calls(program, names[1], names[0])
            except (TooMany, Unlike, Endless):
                continue
            self.assertIs(is_plain(told, growing, most=4000), True)
            done += told != program

    def test_names_of_any_kind(self):
        program = main([], f=PUTS)
        for thing in STRANGE:
            if isinstance(thing, str):
                with self.assertRaises(NoFunction):
                    with_calls(program, "f", thing)
        self.assertIsInstance(with_calls(program, "f", "f"), Program)


if __name__ == "__main__":
    unittest.main()
