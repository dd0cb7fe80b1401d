"""Statements [21]."""
import random
import unittest

from sparetails.statements import bodies, copying, is_statement, made, named, read, sharing
from tests.drawing import ONE, STRANGE, TWO, drawn_statement, nested

COPIES = {"take": "copy", "cut": "copycut", "put": "copyput"}
SIMPLE = [(word, "s") for word in ONE] + [(word, "t", "s") for word in TWO]
SIMPLE += [("call", "t", "f", ()), ("call", "t", "f", ("s",)), ("call", "t", "f", ["s", "r"])]
NESTED = [
    ("loop", []), ("loop", ()), ("either", [[]]), ("either", ((),)), ("either", [(), []]),
    ("loop", [("put", "s", "s"), ("either", [[("keep", "s")], ()])]),
    ("either", ([("loop", (("look", "q"),))], (("call", "t", "f", ["s", "s"]),))),
]


class IsStatement(unittest.TestCase):
    def test_statements(self):
        for thing in SIMPLE + NESTED:
            self.assertIs(is_statement(thing), True, thing)

    def test_any_names_and_functions(self):
        for thing in (("take", "s", "s"), ("call", "s", "main", ("s", "s")), ("put", "abcdefgh", "z"),
                      ("call", "f", "f", ["f"]), ("new", "main"), ("set", "loop")):
            self.assertIs(is_statement(thing), True, thing)

    def test_a_statement_is_a_tuple(self):
        for thing in SIMPLE + NESTED:
            self.assertIs(is_statement(list(thing)), False, thing)
            self.assertIs(is_statement(("loop", [list(thing)])), False, thing)
            self.assertIs(is_statement(("either", [[], [thing, list(thing)]])), False, thing)

    def test_items_too_few_or_too_many(self):
        for thing in SIMPLE + NESTED:
            self.assertIs(is_statement(thing[:-1]), False, thing)
            self.assertIs(is_statement(thing + ("s",)), False, thing)
            self.assertIs(is_statement(thing + ([],)), False, thing)
            self.assertIs(is_statement(thing[:1]), False, thing)
            self.assertIs(is_statement(thing[1:]), False, thing)

    def test_wrong_words(self):
        for word in ("", "New", "moves", "taken", "end", "or", b"new", None, True, 1, (), [], ["new"], {}):
            self.assertIs(is_statement((word, "s")), False, word)
            self.assertIs(is_statement((word, "t", "s")), False, word)
            self.assertIs(is_statement((word, [])), False, word)
            self.assertIs(is_statement((word, [[]])), False, word)
            self.assertIs(is_statement((word, "t", "f", ())), False, word)
        for thing in SIMPLE:
            self.assertIs(is_statement((thing[0], [[]])), False, thing)
            self.assertIs(is_statement((thing[0], [])), False, thing)

    def test_what_is_no_name(self):
        for bad in ("", "abcdefghi", "S", "a1", None, True, 0, ("s",), ["s"], {}):
            for thing in SIMPLE:
                for at in range(1, 4 if thing[0] == "call" else len(thing)):
                    if thing[0] == "call" and at == 3:
                        told = thing[:3] + ((bad,),)
                    else:
                        told = thing[:at] + (bad,) + thing[at + 1:]
                    self.assertIs(is_statement(told), False, told)

    def test_names_of_calls(self):
        self.assertIs(is_statement(("call", "t", "f", ("s", "s", "s"))), False)
        for bad in ("s", "ss", None, 1, {"s": 1}, {}, b"", "", ("s", 1), [["s"]], [None]):
            self.assertIs(is_statement(("call", "t", "f", bad)), False, bad)

    def test_bodies_that_are_none(self):
        for bad in (None, 1, "", "s", {}, ("put", "s", "s"), ["put"], [None], [()], [[]], ("new", "s")):
            self.assertIs(is_statement(("loop", bad)), False, bad)
            self.assertIs(is_statement(("either", [bad])), False, bad)
            self.assertIs(is_statement(("either", [[], bad])), False, bad)
            self.assertIs(is_statement(("either", [bad, []])), False, bad)
            self.assertIs(is_statement(("loop", [("loop", [("loop", bad)])])), False, bad)

    def test_an_either_has_a_body(self):
        for bad in ([], (), None, "", {}, {1: []}, "s", 1):
            self.assertIs(is_statement(("either", bad)), False, bad)
            self.assertIs(is_statement(("loop", [("either", bad)])), False, bad)

    def test_any_value(self):
        good = (("new", "s"), ("look", "s"), ("either", [[]]), ("loop", []), ("call", "t", "f", ()))
        for thing in STRANGE:
            self.assertIs(is_statement(thing), thing in good and isinstance(thing, tuple), thing)

    def test_great_and_deep_values(self):
        self.assertIs(is_statement(("loop", [("put", "s", "s")] * 9000)), True)
        self.assertIs(is_statement(("loop", [("put", "s", "s")] * 9000 + [None])), False)
        self.assertIs(is_statement(("either", [[]] * 9000)), True)
        self.assertIs(is_statement([0] * 10000), False)
        for word in ("loop", "either"):
            self.assertIs(is_statement(nested(100, [("new", "s")], word)[0]), True)
            self.assertIs(is_statement(nested(100, [["new", "s"]], word)[0]), False)
            self.assertIs(is_statement(nested(5000, [], word)[0]), True)
        deep = []
        for _ in range(20):
            deep = [deep]
        self.assertIs(is_statement(("loop", deep)), False)
        self.assertIs(is_statement(deep), False)


class Parts(unittest.TestCase):
    def test_bodies(self):
        for thing in SIMPLE:
            self.assertEqual(bodies(thing), [])
        self.assertEqual(bodies(("loop", ())), [[]])
        self.assertEqual(bodies(("loop", (("new", "s"),))), [[("new", "s")]])
        self.assertEqual(bodies(("either", ((), [("new", "s")], (("look", "t"),)))),
                         [[], [("new", "s")], [("look", "t")]])

    def test_lists_of_bodies_are_new(self):
        inner = [("loop", [("set", "s")]), ("keep", "s")]
        for thing in (("loop", inner), ("either", [inner]), ("either", (inner, inner))):
            told = bodies(thing)
            self.assertEqual(told, [inner] * len(told))
            for body in told:
                self.assertIsNot(body, inner)
                body.clear()
            self.assertEqual(bodies(thing), [inner] * len(told))
            told.append(1)
            self.assertNotEqual(bodies(thing), told)
        twice = bodies(("either", [inner, inner]))
        self.assertIsNot(twice[0], twice[1])
        either = ("either", [inner])
        self.assertIsNot(bodies(either), either[1])

    def test_statements_in_bodies_are_those_passed(self):
        inner = [("loop", [("set", "s")]), ("either", [[]]), ("call", "t", "f", ["s"])]
        for thing in (("loop", inner), ("loop", tuple(inner)), ("either", [[], inner])):
            for told, passed in zip(bodies(thing)[-1], inner):
                self.assertIs(told, passed)

    def test_made(self):
        for thing in SIMPLE + NESTED:
            want = None if thing[0] in ("set", "keep", "look", "either", "loop") else thing[1]
            self.assertEqual(made(thing), want, thing)

    def test_read(self):
        for word in ("set", "keep", "look"):
            self.assertEqual(read((word, "v")), ["v"])
        self.assertEqual(read(("new", "v")), [])
        for word in TWO:
            self.assertEqual(read((word, "v", "w")), ["w"])
            self.assertEqual(read((word, "v", "v")), ["v"])
        self.assertEqual(read(("call", "v", "f", ())), [])
        self.assertEqual(read(("call", "v", "f", ["z"])), ["z"])
        self.assertEqual(read(("call", "v", "f", ("z", "a"))), ["a", "z"])
        self.assertEqual(read(("call", "v", "f", ("s", "s"))), ["s"])
        for thing in NESTED:
            self.assertEqual(read(thing), [])

    def test_named(self):
        for word in ONE:
            self.assertEqual(named((word, "v")), ["v"])
        for word in TWO:
            self.assertEqual(named((word, "w", "v")), ["v", "w"])
            self.assertEqual(named((word, "v", "v")), ["v"])
        self.assertEqual(named(("call", "v", "f", ["z", "a"])), ["a", "v", "z"])
        self.assertEqual(named(("call", "v", "f", ())), ["v"])
        self.assertEqual(named(("loop", [])), [])
        self.assertEqual(named(NESTED[5]), ["s"])
        self.assertEqual(named(NESTED[6]), ["q", "s", "t"])
        self.assertEqual(named(nested(300, [("put", "b", "a")], "either")[0]), ["a", "b"])

    def test_copying_and_sharing(self):
        for thing in SIMPLE + NESTED:
            word = thing[0]
            want = (COPIES[word],) + thing[1:] if word in COPIES else None
            self.assertEqual(copying(thing), want)
            back = {told: one for one, told in COPIES.items()}
            want = (back[word],) + thing[1:] if word in back else None
            self.assertEqual(sharing(thing), want)

    def test_lists_are_new_and_nothing_changes(self):
        source = random.Random(21)
        for _ in range(300):
            thing = drawn_statement(source, {"f": 2, "g": 1}, [12], 3)
            before = repr(thing)
            for asked in (bodies, read, named):
                first = asked(thing)
                again = asked(thing)
                self.assertEqual(first, again)
                self.assertIsNot(first, again)
                first.append("x")
                self.assertEqual(asked(thing), again)
            for told in [read(thing), named(thing)]:
                self.assertEqual(told, sorted(set(told)))
            self.assertIs(is_statement(thing), True)
            self.assertEqual(repr(thing), before)


if __name__ == "__main__":
    unittest.main()
