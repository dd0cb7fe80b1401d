"""Programs [22]."""
import random
import unittest

from sparetails.errors import BadStatement, Endless, Unknown, Wrong
from sparetails.programs import Program
from sparetails.statements import bodies, named
from tests.drawing import (
    NAMES, STRANGE, drawn_functions, drawn_program, has_a_list_twice, nested, share_a_list, spoil,
)


def as_lists(body):
    """The body in the form of functions(), by plain recursion."""
    told = []
    for item in body:
        if item[0] == "loop":
            item = ("loop", as_lists(item[1]))
        elif item[0] == "either":
            item = ("either", [as_lists(inner) for inner in item[1]])
        elif item[0] == "call":
            item = item[:3] + (tuple(item[3]),)
        told.append(item)
    return told


def as_tuples(body):
    """The same body, made of tuples alone, but for the names of calls, which are lists."""
    told = []
    for item in body:
        if item[0] == "loop":
            item = ("loop", as_tuples(item[1]))
        elif item[0] == "either":
            item = ("either", tuple(as_tuples(inner) for inner in item[1]))
        elif item[0] == "call":
            item = item[:3] + (list(item[3]),)
        told.append(item)
    return tuple(told)


def passes(body, able):
    """Whether a way leads through a body on which only able functions are called."""
    for item in body:
        if item[0] == "call" and item[2] not in able:
            return False
        if item[0] == "either" and not any(passes(inner, able) for inner in item[1]):
            return False
    return True


def endless(functions):
    """The least function that cannot end, or None, by going round until nothing changes."""
    able = set()
    while True:
        more = {name for name in functions if passes(functions[name][1], able)}
        if more == able:
            return min([name for name in functions if name not in able], default=None)
        able = more


def called(body):
    found = {item[2] for item in body if item[0] == "call"}
    for item in body:
        for inner in bodies(item):
            found |= called(inner)
    return found


class MadeOf(unittest.TestCase):
    def wrong(self, thing):
        with self.assertRaises(Wrong) as caught:
            Program(thing)
        self.assertIs(type(caught.exception.place), int)
        self.assertEqual(caught.exception.place, 0)

    def test_any_value(self):
        for thing in STRANGE:
            self.wrong(thing)

    def test_main_is_needed(self):
        self.wrong({})
        self.wrong({"mains": ([], [], "s")})
        self.wrong({"f": ([], [], "s"), "Main": ([], [], "s")})

    def test_keys_are_names(self):
        for key in ("", "F", "abcdefghi", "f1", None, 1, True, b"f", ("f",), ()):
            self.wrong({"main": ([], [], "s"), key: ([], [], "s")})

    def test_functions_are_tuples_of_three(self):
        for told in (None, 1, "abc", [], [[], [], "s"], (), ([], []), ([], [], "s", "s"), {}, {0: [], 1: [], 2: "s"}):
            self.wrong({"main": told})
            self.wrong({"main": ([], [], "s"), "f": told})

    def test_parameters(self):
        for bad in (None, "", "a", "ab", 1, {}, {"a": 1}, ["a", "b", "c"], ("a", "a"), ["a", 1], [True], [["a"]],
                    ["A"], [""], ["abcdefghi"], [None]):
            self.wrong({"main": (bad, [], "s")})
            self.wrong({"main": ([], [], "s"), "f": (bad, [], "s")})
        for good in ([], (), ["a"], ("b",), ["b", "a"], ("a", "b")):
            self.assertEqual(Program({"main": (good, [], "s")}).parameters("main"), list(good))

    def test_bodies_are_lists_or_tuples(self):
        for bad in (None, "", "s", 1, {}, True, b""):
            self.wrong({"main": ([], bad, "s")})

    def test_results(self):
        for bad in (None, "", "S", "abcdefghi", 1, True, ["s"], ("s",)):
            self.wrong({"main": ([], [], bad)})

    def test_wrong_comes_ahead_of_bad_statement(self):
        self.wrong({"a": ([], [None], "s"), "main": ([], [], 1)})
        self.wrong({"main": ([], [("call", "t", "f", ())], "s"), "f": ([], [], "S")})
        self.wrong({"main": ([], [("call", "t", "z", ())], "s"), "z": (["a", "a"], [], "s")})

    def test_lists_and_tuples_mean_the_same(self):
        source = random.Random(1)
        for _ in range(200):
            told = drawn_program(source).functions()
            thin = {name: (tuple(p), as_tuples(body), r) for name, (p, body, r) in told.items()}
            self.assertEqual(Program(thin).functions(), told)
            self.assertEqual(Program(thin), Program(told))

    def test_the_order_of_keys_means_nothing(self):
        source = random.Random(2)
        for _ in range(100):
            told = drawn_program(source).functions()
            turned = {name: told[name] for name in reversed(list(told))}
            self.assertEqual(Program(turned), Program(told))
            self.assertEqual(list(Program(turned).functions()), sorted(told))


class BadStatements(unittest.TestCase):
    def bad(self, functions, function, address):
        with self.assertRaises(BadStatement) as caught:
            Program(functions)
        told = (caught.exception.function, caught.exception.address)
        self.assertEqual(told, (function, address))
        self.assertIs(type(told[1]), tuple)

    def test_items_that_are_no_statements(self):
        for item in (None, 1, True, "s", "", [], (), {}, ["new", "s"], ("new",), ("new", "S"), ("new", "s", "s"),
                     ("take", "s"), ("go", "s"), (("new", "s"),), ("loop",), ("loop", None), ("loop", [], []),
                     ("either", []), ("either", ()), ("either", None), ("either", [None]), ("either", [[], "s"]),
                     ("call", "s", "f"), ("call", "s", "f", "s"), ("call", "s", "f", ("s", "s", "s"))):
            self.bad({"main": ([], [item], "s"), "f": (["s"], [], "s")}, "main", (0,))
            self.bad({"main": ([], (("new", "s"), ("loop", (("new", "s"), item))), "s")}, "main", (1, 0, 1))
            self.bad({"main": ([], [("either", [[], [("loop", [item])]])], "s")}, "main", (0, 1, 0, 0, 0))

    def test_whatever_stands_in_its_bodies(self):
        self.bad({"main": ([], [("loop", [None])], "s")}, "main", (0, 0, 0))
        self.bad({"main": ([], [("either", [[], [None]])], "s")}, "main", (0, 1, 0))
        self.bad({"main": ([], [("either", [[None], None])], "s")}, "main", (0,))
        self.bad({"main": ([], [("loop", [("loop", [("either", [[None], []]), None])])], "s")},
                 "main", (0, 0, 0, 0, 0, 0, 0))

    def test_calls(self):
        for item in (("call", "s", "main", ()), ("call", "s", "g", ()), ("call", "s", "f", ()),
                     ("call", "s", "f", ("s", "s")), ("call", "s", "f", [])):
            self.bad({"main": ([], [("new", "s"), item], "s"), "f": (["s"], [], "s")}, "main", (1,))
            self.bad({"main": ([], [], "s"), "f": (["s"], [("loop", [item])], "s")}, "f", (0, 0, 0))
        self.bad({"main": (["s"], [("call", "s", "main", ["s"])], "s")}, "main", (0,))
        Program({"main": ([], [("call", "s", "f", ["s"])], "s"), "f": (["s"], [], "s")})

    def test_the_least_place(self):
        bad = ("loop", [None])
        self.bad({"main": ([], [None], "s"), "a": ([], [("new", "s"), None], "s")}, "a", (1,))
        self.bad({"main": ([], [None], "s"), "z": ([], [None], "s")}, "main", (0,))
        self.bad({"main": ([], [bad, None], "s")}, "main", (0, 0, 0))
        self.bad({"main": ([], [("either", [[("new", "s"), bad], [None]]), None], "s")}, "main", (0, 0, 1, 0, 0))
        self.bad({"main": ([], [("either", [[], [None]]), ("call", "s", "g", ())], "s")}, "main", (0, 1, 0))
        many = [("new", "s")] * 12
        self.bad({"main": ([], many[:2] + [None] + many[:8] + [None], "s")}, "main", (2,))

    def test_it_comes_ahead_of_endless(self):
        self.bad({"main": ([], [None], "s"), "a": ([], [("call", "s", "a", ())], "s")}, "main", (0,))

    def test_the_least_place_of_drawn_faults(self):
        source = random.Random(3)
        for _ in range(300):
            told = drawn_program(source).functions()
            wanted = []
            for _ in range(source.randint(1, 3)):
                self.fault(source, told, wanted)
            self.bad(told, *min(self.places_of_none(told)))

    def fault(self, source, told, wanted):
        """Puts a None somewhere into the functions."""
        name = source.choice(sorted(told))
        body = told[name][1]
        while True:
            inner = [one for item in body if item is not None and item[0] in ("loop", "either")
                     for one in ([item[1]] if item[0] == "loop" else item[1])]
            if not inner or source.random() < 0.5:
                break
            body = source.choice(inner)
        body.insert(source.randint(0, len(body)), None)

    def places_of_none(self, told):
        found = []

        def walk(function, stem, body):
            for at, item in enumerate(body):
                if item is None:
                    found.append((function, stem + (at,)))
                    continue
                for b, inner in enumerate(bodies(item)):
                    walk(function, stem + (at, b), inner)

        for function in told:
            walk(function, (), told[function][1])
        return found


class Ends(unittest.TestCase):
    def endless(self, functions, function):
        with self.assertRaises(Endless) as caught:
            Program(functions)
        self.assertEqual(caught.exception.function, function)

    def test_functions_that_call_themselves(self):
        again = ("call", "s", "f", ())
        self.endless({"main": ([], [], "s"), "f": ([], [again], "s")}, "f")
        self.endless({"main": ([], [again], "s"), "f": ([], [again], "s")}, "f")
        self.endless({"main": ([], [], "s"), "f": ([], [("new", "s"), ("either", [[again], [again]])], "s")}, "f")
        self.endless({"main": ([], [], "s"), "f": ([], [("either", [[again]])], "s")}, "f")
        self.endless({"main": ([], [], "s"), "f": ([], [("either", [[], [again]]), again], "s")}, "f")
        for item in (("loop", [again]), ("either", [[], [again]]), ("either", [[again], []]),
                     ("either", [[again], [("loop", [again])]]), ("loop", [("either", [[again]])])):
            Program({"main": ([], [again], "s"), "f": ([], [item], "s")})

    def test_functions_that_call_one_another(self):
        f, g, h = ("call", "s", "f", ()), ("call", "s", "g", ()), ("call", "s", "h", ())
        self.endless({"main": ([], [], "s"), "g": ([], [f], "s"), "f": ([], [g], "s")}, "f")
        self.endless({"main": ([], [g], "s"), "g": ([], [g], "s"), "f": ([], [], "s")}, "g")
        self.endless({"main": ([], [g], "s"), "zz": ([], [], "s"), "g": ([], [g], "s"), "nn": ([], [g], "s")}, "g")
        self.endless({"b": ([], [g], "s"), "main": ([], [g], "s"), "g": ([], [g], "s")}, "b")
        self.endless({"main": ([], [("either", [[f], [g]])], "s"), "f": ([], [("either", [[g], [h]])], "s"),
                      "g": ([], [("either", [[f], [h]])], "s"), "h": ([], [f], "s")}, "f")
        Program({"main": ([], [("either", [[f], [g]])], "s"), "f": ([], [("either", [[g], [h]])], "s"),
                 "g": ([], [("either", [[f], [h]])], "s"), "h": ([], [("loop", [f])], "s")})

    def test_a_function_that_main_does_not_call(self):
        self.endless({"main": ([], [], "s"), "g": ([], [("call", "s", "g", ())], "s")}, "g")

    def test_main_cannot_end_either(self):
        again = ("call", "s", "z", ())
        self.endless({"main": ([], [again], "s"), "z": ([], [again], "s")}, "main")

    def test_drawn_functions(self):
        source = random.Random(4)
        seen = set()
        for _ in range(3000):
            told = drawn_functions(source, most=6, depth=2)
            wanted = endless(told)
            seen.add(wanted)
            if wanted is None:
                Program(told)
            else:
                self.endless(told, wanted)
        self.assertEqual(seen, {None, "f", "g"})

    def test_a_long_chain_of_calls(self):
        names = [a + b + c for a in "abcdefghij" for b in "abcdefghij" for c in "abcdefghij"]
        told = {one: ([], [("call", "s", other, ())], "s") for one, other in zip(names, names[1:])}
        told["main"] = ([], [("call", "s", names[0], ())], "s")
        program = Program({**told, names[-1]: ([], [], "s")})
        self.assertEqual(program.reached(), sorted(told | {names[-1]: 0}))
        turned = {other: ([], [("call", "s", one, ())], "s") for one, other in zip(names, names[1:])}
        turned["main"] = ([], [("call", "s", names[-1], ())], "s")
        self.assertEqual(len(Program({**turned, names[0]: ([], [], "s")}).reached()), 1001)
        self.endless({**told, names[-1]: ([], [("call", "s", names[5], ())], "s")}, names[0])


class Queries(unittest.TestCase):
    def setUp(self):
        body = [("loop", [("put", "s", "s"), ("either", [[("keep", "s")], []])]), ("call", "t", "f", ("s", "s"))]
        self.made_of = {"main": ([], body, "t"), "f": (["u", "w"], [("cut", "u", "w")], "u")}
        self.told = Program(self.made_of)

    def test_names(self):
        self.assertEqual(self.told.names("main"), ["s", "t"])
        self.assertEqual(self.told.names("f"), ["u", "w"])
        lone = Program({"main": (["z", "b"], [], "k")})
        self.assertEqual(lone.names("main"), ["b", "k", "z"])
        inner = nested(40, [("put", "c", "a"), ("call", "d", "f", ["b"])], "either")
        deep = Program({"main": ([], inner, "e"), "f": (["f"], [], "f")})
        self.assertEqual(deep.names("main"), ["a", "b", "c", "d", "e"])

    def test_parameters_stand_in_their_order(self):
        told = Program({"main": (("t", "s"), (), "a"), "f": (["w", "u"], (), "w")})
        self.assertEqual([told.parameters("main"), told.parameters("f")], [["t", "s"], ["w", "u"]])

    def test_results(self):
        self.assertEqual([self.told.result("main"), self.told.result("f")], ["t", "u"])

    def test_calls(self):
        self.assertEqual([self.told.calls("main"), self.told.calls("f")], [["f"], []])
        both = [("either", [[("call", "t", "g", ())], [("loop", [("call", "t", "f", ("s", "s"))] * 2)]])]
        told = Program({"main": ([], both, "t"), "g": ([], [("loop", both)], "t"), **{"f": self.made_of["f"]}})
        self.assertEqual([told.calls("main"), told.calls("g")], [["f", "g"], ["f", "g"]])

    def test_reached(self):
        self.assertEqual(self.told.reached(), ["f", "main"])
        g, h = ("call", "s", "g", ()), ("call", "s", "h", ())
        told = {"main": ([], [("loop", [("either", [[], [g]])])], "s"), "g": ([], [("loop", [h])], "s"),
                "h": ([], [("loop", [g])], "s"), "a": ([], [g, h], "s"), "z": ([], [], "s")}
        self.assertEqual(Program(told).reached(), ["g", "h", "main"])
        told["main"] = ([], [], "s")
        self.assertEqual(Program(told).reached(), ["main"])

    def test_unknown(self):
        for asked in (self.told.parameters, self.told.result, self.told.names, self.told.calls):
            for name in ("g", "mai", "mains", "s", "abcdefgh"):
                with self.assertRaises(Unknown) as caught:
                    asked(name)
                self.assertIs(caught.exception.name, name)

    def test_functions(self):
        self.assertEqual(self.told.functions(), self.made_of)
        thin = Program({"main": ((), tuple(as_tuples(self.made_of["main"][1])), "t"), "f": self.made_of["f"]})
        told = thin.functions()["main"]
        self.assertIs(type(told), tuple)
        self.assertEqual(told, self.made_of["main"])
        self.assertIs(type(told[0]), list)
        self.assertIs(type(told[1]), list)
        self.assertIs(type(told[1][0][1]), list)
        self.assertIs(type(told[1][0][1][1][1]), list)
        self.assertIs(type(told[1][0][1][1][1][0]), list)
        self.assertIs(type(told[1][1][3]), tuple)

    def test_drawn_programs(self):
        source = random.Random(5)
        for _ in range(300):
            made_of = drawn_functions(source)
            if endless(made_of) is not None:
                continue
            told = Program(made_of)
            wanted = {name: (list(p), as_lists(body), r) for name, (p, body, r) in made_of.items()}
            self.assertEqual(told.functions(), wanted)
            self.assertEqual(list(told.functions()), sorted(wanted))
            for name, (parameters, body, result) in wanted.items():
                found = {n for item in body for n in named(item)} | set(parameters) | {result}
                self.assertEqual(told.names(name), sorted(found))
                self.assertEqual(told.calls(name), sorted(called(body)))
                self.assertEqual((told.parameters(name), told.result(name)), (parameters, result))

    def test_nothing_hangs_on_what_was_passed_or_returned(self):
        source = random.Random(6)
        for _ in range(200):
            told = drawn_program(source)
            made_of = told.functions()
            again = Program(made_of)
            spoil(made_of)
            self.assertEqual(again, told)
            self.assertEqual(again.functions(), told.functions())
            for asked in (again.functions, again.reached, lambda: again.names("main"), lambda: again.calls("main"),
                          lambda: again.parameters("main")):
                first, second = asked(), asked()
                self.assertFalse(share_a_list(first, second))
                self.assertFalse(has_a_list_twice(first))
                spoil(first)
                self.assertEqual(asked(), second)

    def test_statements_that_are_shared(self):
        inner = ["s"]
        call = ("call", "t", "f", inner)
        body = [call, ("either", [[call], [call]])]
        either = ("either", [body, body])
        made_of = {"main": ([], [either, ("loop", body), either], "s"), "f": (inner, [("loop", body)], "s")}
        told = Program(made_of)
        self.assertEqual(told.functions()["main"], ([], as_lists(made_of["main"][1]), "s"))
        self.assertFalse(has_a_list_twice(told.functions()))
        self.assertEqual(len(told.addresses("main")), 2 * (1 + 8) + 1 + 4 + 1)

    def test_many_and_deep_statements(self):
        body = [("put", NAMES[at % 4], "s") for at in range(5000)]
        self.assertEqual(Program({"main": ([], body, "s")}).functions()["main"][1], body)
        for word in ("loop", "either"):
            deep = Program({"main": ([], nested(100, body[:30], word), "s")})
            self.assertEqual(deep.functions()["main"][1], nested(100, body[:30], word))
            with self.assertRaises(BadStatement) as caught:
                Program({"main": ([], nested(100, [None], word), "s")})
            want = (0, 0 if word == "loop" else 1) * 100 + (0,)
            self.assertEqual(caught.exception.address, want)
            again = nested(100, [("call", "s", "f", ())], word)
            made_of = {"main": ([], [], "s"), "f": ([], again, "s")}
            self.assertEqual(Program(made_of).calls("f"), ["f"])
        self.assertEqual(len(Program({"main": ([], nested(400, [], "loop"), "s")}).addresses("main")), 401)


class Equality(unittest.TestCase):
    def test_equal_programs(self):
        source = random.Random(7)
        drawn = [drawn_program(source, most=3, depth=2, names=("r", "s")) for _ in range(150)]
        for one in drawn:
            for other in drawn:
                same = one.functions() == other.functions()
                self.assertIs(one == other, same)
                self.assertIs(one != other, not same)

    def test_what_differs_but_little(self):
        def told(body, result="s", parameters=()):
            return Program({"main": (parameters, body, result)})

        base = told([("loop", [("new", "s")]), ("new", "s")])
        for other in (told([("loop", [("new", "s"), ("new", "s")])]), told([("loop", []), ("new", "s"), ("new", "s")]),
                      told([("either", [[("new", "s")]]), ("new", "s")]), told([("new", "s"), ("new", "s")]),
                      told([("loop", [("new", "s")]), ("new", "s")], "t"), told([]),
                      told([("loop", [("new", "s")]), ("new", "s")], "s", ["s"]),
                      Program({**base.functions(), "f": ([], [], "s")})):
            self.assertIs(base == other, False)
            self.assertIs(other == base, False)
            self.assertIs(base != other, True)
        self.assertNotEqual(told([], "s", ["s", "t"]), told([], "s", ["t", "s"]))
        self.assertNotEqual(told([("either", [[], [("new", "s")]])]), told([("either", [[("new", "s")], []])]))
        self.assertNotEqual(told([("either", [[], []])]), told([("either", [[]])]))
        self.assertEqual(base, told((("loop", (("new", "s"),)), ("new", "s"))))
        self.assertIs(base == base, True)
        self.assertIs(base != base, False)

    def test_other_kinds_of_values(self):
        program = Program({"main": ([], [], "s")})
        for thing in STRANGE + (program.functions(), Program):
            self.assertIs(program == thing, False)
            self.assertIs(thing == program, False)
            self.assertIs(program != thing, True)
            self.assertIs(thing != program, True)

    def test_it_is_equal_to_nothing_else_whatever_that_says(self):
        class Anything:
            def __eq__(self, other):
                return True

        program = Program({"main": ([], [], "s")})
        self.assertIs(program == Anything(), False)
        self.assertIs(program != Anything(), True)

    def test_deep_programs(self):
        for word in ("loop", "either"):
            one = Program({"main": ([], nested(400, [("new", "s")], word), "s")})
            same = Program({"main": ((), nested(400, [("new", "s")], word), "s")})
            other = Program({"main": ([], nested(400, [("new", "t")], word), "s")})
            self.assertIs(one == same, True)
            self.assertIs(one == other, False)

    def test_programs_are_not_iterated_over(self):
        with self.assertRaises(TypeError):
            list(Program({"main": ([], [], "s")}))


if __name__ == "__main__":
    unittest.main()
