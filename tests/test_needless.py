"""Needless statements [52]."""
import random
import unittest

from sparetails.errors import NoPlace
from sparetails.needless import lean, left_out, needless
from sparetails.places import after, all_places, statement_at
from sparetails.programs import Program
from sparetails.tables import Table
from sparetails.watching import alive
from tests.drawing import PUT, at, drawn_program, has_a_list_twice, main, nested, share_a_list

MAKING = (("new", "t"), ("take", "t", "s"), ("cut", "t", "s"), ("copy", "t", "s"), ("copycut", "t", "s"), ("copyput", "t", "s"))


def body_of(program, function="main"):
    return program.functions()[function][1]


class Needless(unittest.TestCase):
    def test_each_kind(self):
        for statement in MAKING:
            self.assertEqual(needless(main([statement])), [at(0)])
            self.assertEqual(needless(main([statement], "t")), [])
            self.assertEqual(needless(main([statement, ("look", "t")])), [])
            self.assertEqual(needless(main([statement, statement, ("look", "t")])), [at(0)])

    def test_never_needless(self):
        for statement in (("put", "t", "s"), ("set", "t"), ("set", "s"), ("keep", "t"), ("look", "t"), ("call", "t", "f", ("s",)),
                          ("loop", []), ("either", [[]])):
            program = main([statement], f=(["p"], [], "p"))
            self.assertEqual(needless(program), [])
            self.assertEqual(lean(program), program)

    def test_a_name_given_to_itself(self):
        for word in ("take", "cut", "copy", "copycut", "copyput"):
            self.assertEqual(needless(main([(word, "t", "t")])), [at(0)])
            self.assertEqual(needless(main([(word, "s", "s")])), [])

    def test_in_inner_bodies_and_other_functions(self):
        program = main([("loop", [("new", "t"), ("either", [[("take", "t", "s")], [("look", "t")]])])],
                       f=([], [("new", "a"), ("new", "b")], "b"))
        self.assertEqual(needless(program), [("f", (0,)), at(0, 0, 1, 0, 0)])

    def test_loops_come_back(self):
        program = main([("loop", [("look", "t"), ("new", "t")])])
        self.assertEqual(needless(program), [])

    def test_behind_one_another(self):
        program = main([("take", "t", "s"), ("take", "u", "t"), ("cut", "a", "u")])
        self.assertEqual(needless(program), [at(2)])
        self.assertEqual(needless(left_out(program, [at(2)])), [at(1)])
        self.assertEqual(lean(program), main([]))


class LeftOut(unittest.TestCase):
    def setUp(self):
        self.body = [PUT, ("loop", [("new", "t"), ("look", "t"), ("either", [[("keep", "s")], [PUT, ("set", "s")]])]), ("new", "s")]
        self.program = main(self.body, f=(["p"], [("look", "p"), ("set", "p")], "q"))

    def out(self, *addresses):
        return body_of(left_out(self.program, [at(*address) for address in addresses]))

    def test_no_place(self):
        other = left_out(self.program, [])
        self.assertIsInstance(other, Program)
        self.assertEqual(other, self.program)
        self.assertIsNot(other, self.program)

    def test_one_place(self):
        self.assertEqual(self.out((0,)), self.body[1:])
        self.assertEqual(self.out((2,)), self.body[:2])
        self.assertEqual(self.out((1,)), [PUT, ("new", "s")])

    def test_several_in_one_body(self):
        self.assertEqual(self.out((0,), (2,)), [self.body[1]])
        self.assertEqual(self.out((2,), (0,)), [self.body[1]])
        self.assertEqual(self.out((2,), (0,), (1,)), [])
        self.assertEqual(self.out((1, 0, 0), (1, 0, 2)), [PUT, ("loop", [("look", "t")]), ("new", "s")])

    def test_inner_bodies(self):
        self.assertEqual(self.out((1, 0, 2, 1, 0)), [
            PUT, ("loop", [("new", "t"), ("look", "t"), ("either", [[("keep", "s")], [("set", "s")]])]), ("new", "s")])

    def test_bodies_that_become_empty(self):
        self.assertEqual(self.out((1, 0, 2, 0, 0)), [
            PUT, ("loop", [("new", "t"), ("look", "t"), ("either", [[], [PUT, ("set", "s")]])]), ("new", "s")])
        self.assertEqual(self.out((1, 0, 0), (1, 0, 1), (1, 0, 2)), [PUT, ("loop", []), ("new", "s")])

    def test_places_within_a_statement_that_is_left_out(self):
        for inner in ((1, 0, 1), (1, 0, 2, 1, 1)):
            self.assertEqual(self.out((1,), inner), [PUT, ("new", "s")])
            self.assertEqual(self.out(inner, (1,)), [PUT, ("new", "s")])

    def test_several_functions(self):
        other = left_out(self.program, [("f", (1,)), at(1), ("f", (0,))])
        self.assertEqual(other.functions(), {"f": (["p"], [], "q"), "main": ([], [PUT, ("new", "s")], "s")})

    def test_a_tuple_of_places(self):
        self.assertEqual(left_out(self.program, (at(0), at(2))), left_out(self.program, [at(0), at(2)]))

    def test_no_statement_stands_there(self):
        for place in (at(3), at(1, 0, 3), at(1, 1, 0), at(1, 0, 2, 2, 0), ("f", (2,)), ("g", (0,)), at(), at(-1), at(True), at(1, 0)):
            for places in ([place], [at(0), place], [place, at(9)], [at(0), place, ("h", (0,)), at(1)]):
                with self.assertRaises(NoPlace) as caught:
                    left_out(self.program, places)
                self.assertIs(caught.exception.place, place)

    def test_nothing_that_is_passed_in_changes(self):
        places = [at(2), at(0)]
        kept = self.program.functions()
        left_out(self.program, places)
        self.assertEqual((places, self.program.functions()), ([at(2), at(0)], kept))


class Lean(unittest.TestCase):
    def test_bodies_that_become_empty(self):
        program = main([("loop", [("take", "t", "s"), ("cut", "u", "t")]), ("either", [[("new", "t")], [PUT]])])
        self.assertEqual(body_of(lean(program)), [("loop", []), ("either", [[], [PUT]])])

    def test_round_about(self):
        # Each is read by the other one alone: neither is needless.
        program = main([("loop", [("take", "t", "u"), ("take", "u", "t")])])
        self.assertEqual(needless(program), [])
        self.assertEqual(lean(program), program)

    def test_lean_is_new(self):
        program = main([PUT])
        self.assertEqual(lean(program), program)
        self.assertIsNot(lean(program), program)

    def test_deep_bodies(self):
        program = main(nested(100, [("new", "t"), PUT]))
        self.assertEqual(lean(program), main(nested(100, [PUT])))

    def test_drawn_programs(self):
        source = random.Random(52)
        changed = 0
        for _ in range(200):
            program = drawn_program(source)
            kept = program.functions()
            told = needless(program)
            self.assertEqual(told, [
                place for place in all_places(program)
                if statement_at(program, place) is not None and self.is_needless(program, place)])
            other = lean(program)
            self.assertEqual(needless(other), [])
            self.assertEqual(lean(other), other)
            changed += other != program
            self.assertEqual(program.functions(), kept)
            self.assertFalse(has_a_list_twice(other.functions()) or share_a_list(other.functions(), kept))
            # One after another comes to the same.
            one = program
            while needless(one):
                one = left_out(one, [source.choice(needless(one))])
            self.assertEqual(one, other)
        self.assertGreater(changed, 50)

    def is_needless(self, program, place):
        statement = statement_at(program, place)
        making = [one[0] for one in MAKING]
        return statement[0] in making and statement[1] not in alive(program, after(program, place))

    def test_plain_just_if_the_lean_one_is(self):
        source = random.Random(521)
        seen = {True: 0, False: 0}
        for _ in range(150):
            program = drawn_program(source, names=("r", "s"))
            for growing in ("exact", "spare"):
                plain = not Table(program, growing, most=4000).spoiling()
                self.assertEqual(not Table(lean(program), growing, most=4000).spoiling(), plain)
                seen[plain] += 1
        self.assertGreater(min(seen.values()), 5)


if __name__ == "__main__":
    unittest.main()
