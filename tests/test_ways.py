"""Ways [50]."""
import copy
import random
import unittest

from sparetails.errors import NoPlace, Unknown
from sparetails.places import after, all_places, statement_at, ways
from sparetails.ways import is_way_to_look, steps_to_end, steps_to_look, steps_to_result, way_to_look
from tests.drawing import PUT, STRANGE, at, dense_program, drawn_program, in_f, main, nested


class ByHand:
    """All ways from a place, step by step: each as (places, calls, sets of followed names), tried one after another."""

    def __init__(self, program):
        self.program = program

    def on(self, calls):
        """The lists of calls, each a tuple (place, followed names), to which a step leads; none once the call ended."""
        place, followed = calls[-1]
        statement = statement_at(self.program, place)
        if statement is None:
            if len(calls) == 1:
                return []
            waiting, outer = calls[-2]
            v = statement_at(self.program, waiting)[1]
            outer = outer - {v}
            if self.program.result(place[0]) in followed:
                outer = outer | {v}
            return [calls[:-2] + [(after(self.program, waiting), outer)]]
        word = statement[0]
        if word == "call":
            parameters = self.program.parameters(statement[2])
            inner = frozenset(p for p, name in zip(parameters, statement[3]) if name in followed)
            return [calls + [((statement[2], (0,)), inner)]]
        if word in ("take", "cut", "put", "copy", "copycut", "copyput", "new"):
            v, w = statement[1], statement[-1]
            followed = followed | {v} if word != "new" and w in followed else followed - {v}
        return [calls[:-1] + [(to, followed)] for to in ways(self.program, place)]

    def looks(self, calls):
        place, followed = calls[-1]
        statement = statement_at(self.program, place)
        return statement is not None and statement[0] in ("look", "keep") and statement[1] in followed

    def levels(self, place, name, most):
        """For each number of steps the set of the calls that stand behind so many."""
        now = [((place, frozenset([name] if name else [])),)]
        for _ in range(most):
            yield now
            now = sorted({tuple(calls) for one in now for calls in self.on(list(one))}, key=repr)
            if len(now) > 400:
                return

    def fewest(self, place, name, most):
        """The fewest steps to (end, look, result), None where they were not found, and how far all were seen."""
        end = look = result = None
        steps = -1
        for steps, now in enumerate(self.levels(place, name, most)):
            for calls in now:
                here, followed = calls[-1]
                if len(calls) == 1 and statement_at(self.program, here) is None:
                    end = steps if end is None else end
                    if self.program.result(place[0]) in followed and result is None:
                        result = steps
                if look is None and self.looks(calls):
                    look = steps + 1
        return end, look, result, steps


class Ends(unittest.TestCase):
    def test_at_the_end(self):
        self.assertEqual(steps_to_end(main([]), at(0)), 0)
        self.assertEqual(steps_to_end(main([PUT, PUT]), at(2)), 0)

    def test_statements_loops_and_eithers(self):
        program = main([PUT, ("loop", [PUT, ("either", [[PUT], [PUT, PUT]])]), ("either", [[PUT], []]), PUT])
        told = {place[1]: steps_to_end(program, place) for place in all_places(program)}
        self.assertEqual(told, {
            (0,): 4, (1,): 3, (1, 0, 0): 6, (1, 0, 1): 5, (1, 0, 1, 0, 0): 4, (1, 0, 1, 1, 0): 5, (1, 0, 1, 1, 1): 4,
            (2,): 2, (2, 0, 0): 2, (3,): 1, (4,): 0})

    def test_calls_count_their_steps_and_their_ends(self):
        program = main([("call", "s", "f", ())], f=([], [PUT, PUT], "s"), g=([], [("call", "s", "f", ()), PUT], "s"))
        self.assertEqual(steps_to_end(program, at(0)), 4)
        self.assertEqual(steps_to_end(program, ("g", (0,))), 5)
        program = main([("call", "s", "f", ())], f=([], [], "s"))
        self.assertEqual(steps_to_end(program, at(0)), 2)

    def test_through_a_call_or_past_it(self):
        call = ("call", "s", "f", ())
        for long, want in (([PUT] * 3, 5), ([PUT] * 4, 6), ([PUT] * 5, 7), ([PUT] * 6, 7)):
            program = main([("either", [[call], long]), PUT], f=([], [PUT] * 3, "s"))
            self.assertEqual(steps_to_end(program, at(0)), want)

    def test_recursion(self):
        program = main([("call", "s", "f", ())], f=([], [("either", [[("call", "s", "f", ()), PUT], [PUT] * 3])], "s"))
        self.assertEqual(steps_to_end(program, in_f(0)), 4)
        self.assertEqual(steps_to_end(program, in_f(0, 0, 0)), 7)
        self.assertEqual(steps_to_end(program, at(0)), 6)


class Looks(unittest.TestCase):
    def test_the_look_counts(self):
        program = main([("look", "s"), ("keep", "t"), PUT, ("look", "s")])
        self.assertEqual([steps_to_look(program, at(k), "s") for k in range(5)], [1, 3, 2, 1, None])
        self.assertEqual([steps_to_look(program, at(k), "t") for k in range(5)], [2, 1, None, None, None])

    def test_each_statement_that_makes_cells_followed(self):
        for word in ("take", "cut", "put", "copy", "copycut", "copyput"):
            program = main([(word, "t", "s"), ("look", "t")])
            self.assertEqual(steps_to_look(program, at(0), "s"), 2)
            self.assertIsNone(steps_to_look(program, at(0), "t"))
            self.assertEqual(way_to_look(program, at(0), "s"), [at(0), at(1)])

    def test_a_set_changes_nothing(self):
        program = main([("set", "s"), ("look", "s")])
        self.assertEqual(steps_to_look(program, at(0), "s"), 2)

    def test_another_window(self):
        for statement in (("new", "s"), ("take", "s", "t"), ("put", "s", "t"), ("copy", "s", "t"), ("call", "s", "f", ())):
            program = main([statement, ("look", "s")], f=([], [], "s"))
            self.assertIsNone(steps_to_look(program, at(0), "s"))
        for word in ("take", "cut", "put", "copy", "copycut", "copyput"):
            program = main([(word, "s", "s"), ("look", "s")])
            self.assertEqual(steps_to_look(program, at(0), "s"), 2)

    def test_one_name_after_another(self):
        program = main([("take", "t", "s"), ("new", "s"), ("put", "u", "t"), ("new", "t"), ("look", "u")])
        self.assertEqual(steps_to_look(program, at(0), "s"), 5)
        self.assertIsNone(steps_to_look(program, at(0), "t"))

    def test_through_calls(self):
        told = (["p", "q"], [("put", "r", "q")], "r")
        program = main([("call", "s", "f", ("s", "t")), ("look", "s")], f=told)
        self.assertIsNone(steps_to_look(program, at(0), "s"))
        self.assertEqual(steps_to_look(program, at(0), "t"), 4)
        self.assertEqual(way_to_look(program, at(0), "t"), [at(0), in_f(0), in_f(1), at(1)])
        self.assertEqual(steps_to_result(program, in_f(0), "q"), 1)

    def test_within_calls(self):
        program = main([("call", "s", "f", ("t", "s"))], f=(["p", "q"], [PUT, ("look", "q")], "p"))
        self.assertEqual(way_to_look(program, at(0), "s"), [at(0), in_f(0), in_f(1)])
        self.assertIsNone(way_to_look(program, at(0), "t"))

    def test_past_a_call(self):
        program = main([("call", "t", "f", ()), ("look", "s"), ("look", "t")], f=([], [("look", "s")], "s"))
        self.assertEqual(way_to_look(program, at(0), "s"), [at(0), in_f(0), in_f(1), at(1)])
        self.assertIsNone(steps_to_look(program, at(0), "t"))

    def test_passed_twice(self):
        for looked in ("p", "q"):
            program = main([("call", "t", "f", ("s", "s"))], f=(["p", "q"], [("look", looked)], "p"))
            self.assertEqual(steps_to_look(program, at(0), "s"), 2)
        for result in ("p", "q"):
            program = main([("call", "s", "f", ("s", "s")), ("look", "s")], f=(["p", "q"], [], result))
            self.assertEqual(steps_to_look(program, at(0), "s"), 3)

    def test_past_the_call_or_through_it(self):
        again = [("either", [[("call", "t", "f", ("s",)), ("look", "t")], [PUT, PUT, PUT, ("look", "s")]])]
        program = main(again, f=(["p"], [], "p"))
        self.assertEqual(steps_to_look(program, at(0), "s"), 4)
        self.assertEqual(way_to_look(program, at(0), "s"), [at(0), at(0, 0, 0), in_f(0), at(0, 0, 1)])

    def test_recursion_in_loops(self):
        body = [("loop", [("put", "q", "p"), ("call", "r", "f", ("q",)), ("take", "p", "r")]), ("look", "p")]
        program = main([("call", "s", "f", ("s",)), ("keep", "s")], f=(["p"], body, "p"))
        self.assertEqual(steps_to_look(program, at(0), "s"), 3)
        self.assertEqual(steps_to_look(program, in_f(0, 0, 2), "r"), 3)
        self.assertEqual(steps_to_look(program, in_f(0, 0, 1), "q"), 3)
        self.assertEqual(steps_to_look(program, in_f(0, 0, 1), "p"), None)
        self.assertEqual(steps_to_result(program, in_f(0, 0, 1), "q"), 1 + 2 + 1 + 3)

    def test_functions_that_main_does_not_call(self):
        program = main([], f=(["p"], [("loop", [("keep", "p")])], "p"))
        self.assertEqual(steps_to_look(program, in_f(0), "p"), 2)
        self.assertEqual((steps_to_end(program, in_f(0, 0, 0)), steps_to_result(program, in_f(0, 0, 0), "p")), (2, 2))

    def test_results(self):
        program = main([("take", "t", "s"), PUT], result="t")
        self.assertEqual([steps_to_result(program, at(k), "s") for k in range(3)], [2, None, None])
        self.assertEqual([steps_to_result(program, at(k), "t") for k in range(3)], [None, 1, 0])

    def test_looks_behind_the_end_of_the_call_are_no_looks_of_it(self):
        program = main([("call", "s", "f", ("s",)), ("look", "s")], f=(["p"], [], "p"))
        self.assertIsNone(steps_to_look(program, in_f(0), "p"))

    def test_deep_bodies(self):
        program = main(nested(100, [("look", "s")]) + nested(100, [PUT], "either"))
        self.assertEqual(steps_to_look(program, at(0), "s"), 101)
        self.assertEqual(len(way_to_look(program, at(0), "s")), 101)
        self.assertEqual(steps_to_end(program, at(0)), 2)
        self.assertEqual(steps_to_end(program, at(*[0] * 201)), 102)


class IsWay(unittest.TestCase):
    def setUp(self):
        again = [("put", "q", "p"), ("take", "r", "q"), ("call", "r", "f", ("q",))]
        self.program = main([("call", "s", "f", ("s",)), ("look", "s")],
                            f=(["p"], [("keep", "p"), ("loop", again)], "p"))
        self.way = [in_f(1), in_f(1, 0, 0), in_f(1, 0, 1), in_f(1, 0, 2), in_f(0)]

    def is_way(self, thing, place=("f", (1,)), name="p"):
        return is_way_to_look(self.program, place, name, thing)

    def test_told_ways(self):
        self.assertEqual(way_to_look(self.program, in_f(1), "p"), self.way)
        self.assertIs(self.is_way(self.way), True)
        self.assertIs(self.is_way([at(0), in_f(0)], at(0), "s"), True)

    def test_longer_ones(self):
        round_ = self.way[:-1] + [in_f(0), in_f(1), in_f(2)]
        self.assertIs(self.is_way(round_ + self.way), True)
        self.assertIs(self.is_way(round_ + round_ + self.way), True)
        self.assertIs(self.is_way(round_), False)
        whole = [at(0), in_f(0), in_f(1), in_f(2), at(1)]
        self.assertIs(self.is_way(whole, at(0), "s"), True)
        self.assertIs(self.is_way(whole[:-1], at(0), "s"), False)
        self.assertIs(self.is_way(whole + [at(2)], at(0), "s"), False)

    def test_a_place_out_or_twice(self):
        for at_index in range(len(self.way)):
            self.assertIs(self.is_way(self.way[:at_index] + self.way[at_index + 1:]), False)
            self.assertIs(self.is_way(self.way[:at_index] + [self.way[at_index]] + self.way[at_index:]), False)

    def test_each_place_put_otherwise(self):
        others = [place for place in all_places(self.program)] + list(STRANGE) + [("f", (True,)), ("f", [1]), ("g", (0,))]
        for index, place in enumerate(self.way):
            for other in others:
                if repr(other) != repr(place):
                    self.assertIs(self.is_way(self.way[:index] + [other] + self.way[index + 1:]), False)
        self.assertIs(self.is_way([("f", (True,))] + self.way[1:]), False)
        self.assertIs(self.is_way([["f", (1,)]] + self.way[1:]), False)
        self.assertIs(self.is_way([("f", [1])] + self.way[1:]), False)

    def test_from_another_place(self):
        self.assertIs(self.is_way(self.way, in_f(1, 0, 0)), False)
        self.assertIs(self.is_way(self.way[1:], in_f(1, 0, 0)), True)
        self.assertIs(self.is_way(self.way[1:], in_f(1)), False)

    def test_other_names(self):
        self.assertIs(self.is_way(self.way, name="q"), False)
        self.assertIs(self.is_way(self.way, name="r"), False)
        self.assertIs(self.is_way(self.way[3:], self.way[3], "q"), True)
        self.assertIs(self.is_way(self.way[3:], self.way[3], "r"), False)

    def test_any_value(self):
        for thing in STRANGE + (tuple(self.way), self.program, {place: 1 for place in self.way}):
            self.assertIs(self.is_way(thing), False)
        for thing in STRANGE:
            self.assertIs(self.is_way([thing]), False)

    def test_a_way_ends_with_its_call(self):
        way = [in_f(0), in_f(1), in_f(2), at(1)]
        self.assertIs(self.is_way(way, in_f(0), "p"), False)
        self.assertIs(self.is_way(way[:1], in_f(0), "p"), True)

    def test_empty_bodies(self):
        program = main([("loop", []), ("either", [[], [], [PUT]]), ("look", "s")])
        for many in range(1, 4):
            self.assertIs(is_way_to_look(program, at(0), "s", [at(0)] * many + [at(1), at(2)]), True)
        self.assertIs(is_way_to_look(program, at(1), "s", [at(1), at(1, 2, 0), at(2)]), True)
        self.assertIs(is_way_to_look(program, at(1), "s", [at(1), at(1), at(2)]), False)


class Errors(unittest.TestCase):
    def test_no_place_ahead_of_unknown(self):
        program = main([PUT, ("loop", [("look", "s")])], f=(["p"], [], "p"))
        asked = [steps_to_look, steps_to_result, way_to_look, lambda *told: is_way_to_look(*told, [])]
        places = [at(3), at(0, 0, 0), at(1, 1, 0), at(1, 0, 1), ("g", (0,)), at(), at(-1), in_f(1), at(1, 0)]
        for place in places:
            with self.assertRaises(NoPlace) as caught:
                steps_to_end(program, place)
            self.assertIs(caught.exception.place, place)
            for one in asked:
                for name in ("s", "none"):
                    with self.assertRaises(NoPlace) as caught:
                        one(program, place, name)
                    self.assertIs(caught.exception.place, place)
        for place, name in ((at(0), "p"), (in_f(0), "s"), (at(2), "none"), (in_f(0), "q"), (at(0), "main"), (at(0), "f")):
            for one in asked:
                with self.assertRaises(Unknown) as caught:
                    one(program, place, name)
                self.assertEqual(caught.exception.name, name)

    def test_truths_are_no_numbers(self):
        with self.assertRaises(NoPlace):
            steps_to_end(main([PUT, PUT]), at(True))


class Drawn(unittest.TestCase):
    def check(self, program, most):
        hand = ByHand(program)
        found = 0
        for place in all_places(program):
            for name in program.names(place[0]):
                end, look, result, seen = hand.fewest(place, name, most)
                told = (steps_to_end(program, place), steps_to_look(program, place, name),
                        steps_to_result(program, place, name))
                for want, have, shift in ((end, told[0], 0), (look, told[1], 1), (result, told[2], 0)):
                    if want is None:
                        self.assertTrue(have is None or have > seen, (program.functions(), place, name, told))
                    else:
                        self.assertEqual(have, want, (program.functions(), place, name))
                        found += shift
                way = way_to_look(program, place, name)
                if way is None:
                    self.assertIsNone(told[1])
                else:
                    self.assertEqual(len(way), told[1])
                    self.assertIs(is_way_to_look(program, place, name, way), True)
        return found

    def test_all_ways_one_after_another(self):
        source = random.Random(50)
        found = sum(self.check(drawn_program(source, most=8, names=("r", "s", "t")), 12) for _ in range(120))
        self.assertGreater(found, 300)

    def test_dense_programs(self):
        source = random.Random(51)
        found = sum(self.check(dense_program(source, ("r", "s"), 7), 12) for _ in range(25))
        self.assertGreater(found, 200)

    def test_is_way_beside_all_ways(self):
        source = random.Random(52)
        told = {True: 0, False: 0}
        for _ in range(60):
            program = drawn_program(source, most=8, names=("r", "s"))
            hand = ByHand(program)
            for _ in range(20):
                place = source.choice(all_places(program))
                name = source.choice(program.names(place[0]))
                calls, way = [(place, frozenset([name]))], []
                while calls and len(way) < 30:
                    way.append(calls[-1][0])
                    want = hand.looks(calls)
                    self.assertIs(is_way_to_look(program, place, name, way), want)
                    told[want] += 1
                    more = hand.on(calls)
                    calls = source.choice(more) if more else None
        self.assertGreater(min(told.values()), 30)

    def test_nothing_changes(self):
        source = random.Random(53)
        for _ in range(20):
            program = drawn_program(source)
            kept = program.functions()
            for place in all_places(program):
                for name in program.names(place[0]):
                    way = way_to_look(program, place, name)
                    if way is not None:
                        again = way_to_look(program, place, name)
                        self.assertEqual(way, again)
                        self.assertIsNot(way, again)
                        passed = copy.deepcopy(way)
                        is_way_to_look(program, place, name, passed)
                        self.assertEqual(passed, way)
                        way.clear()
                        self.assertEqual(way_to_look(program, place, name), again)
            self.assertEqual(program.functions(), kept)


if __name__ == "__main__":
    unittest.main()
