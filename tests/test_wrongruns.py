"""Runs in which a look is not right [82], [6]."""
import copy
import random
import unittest

from sparetails.errors import TooMany
from sparetails.machine import Machine
from sparetails.programs import Program
from sparetails.runs import is_run, looks, played, wrong_look
from sparetails.spoilings import fewest_steps, first_spoiling, is_plain, spoilings
from sparetails.tables import Table
from sparetails.wrongruns import is_wrong_run, seen_wrong, wrong_run
from tests.drawing import (
    PUT, STRANGE, dense_program, drawn_machine, drawn_program, has_a_list_twice, listed_run, main, share_a_list, spoil,
)

GROWINGS = ("exact", "spare")
GROWN = main([PUT, ("take", "t", "s"), ("put", "t", "t"), PUT, ("look", "t")])
WRONG = ("spare", (1, 1), ((1, 3), (), (1,), (1,), ()))
AGAIN = main([("call", "s", "back", ("s",))], back=(
    ["p"], [("keep", "p"), ("loop", [("put", "q", "p"), ("take", "r", "q"), ("call", "r", "back", ("q",))])], "p"))
SET = main([("take", "t", "s"), ("set", "s"), ("look", "t")])
PLAIN = main([("call", "t", "f", ("s",)), ("look", "s"), ("look", "t")], f=(["p"], [("copyput", "q", "p")], "q"))
STORED = main([("keep", "s"), ("set", "s"), ("look", "s"), ("new", "s"), ("look", "s")])


class WrongRun(unittest.TestCase):
    def check(self, program, growing, most=1000):
        """Looks at the wrong run of a program; returns the first victim, and whether the store alone is wrong."""
        run = wrong_run(program, growing, most=most)
        self.assertIs(is_plain(program, growing, most=most), run is None)
        if run is None:
            self.assertEqual(spoilings(program, growing, most=most), [])
            return None
        self.assertEqual(run[0], growing)
        self.assertTrue(all(type(part) is tuple for part in (run, run[1], run[2], *run[2])))
        self.assertTrue(all(type(number) is int for part in (run[1], *run[2]) for number in part))
        self.assertIs(is_run(program, run), True)
        self.assertIs(is_wrong_run(program, growing, run), True)
        spoils = first_spoiling(program, run)
        self.assertEqual(spoils[0] + 1, fewest_steps(program, growing, most=most))
        self.assertIn(spoils[1:], spoilings(program, growing, most=most))
        machine = played(program, run)
        shown = [at for at, (_, seen, plain) in enumerate(looks(program, run)) if seen != plain]
        if looks(program, run)[shown[0]][0] is None:
            self.assertIs(machine.is_over(), True)
            return spoils[3], True
        # The last step is the first look that is not right.
        machine.back()
        self.assertEqual(shown[0], len(machine.looks()))
        self.assertIsNone(wrong_look(program, (*run[:2], run[2][:-1])))
        return spoils[3], False

    def test_programs(self):
        for program, plain in ((GROWN, (True, False)), (AGAIN, (True, False)), (SET, (False, False)), (PLAIN, (True, True)),
                               (STORED, (False, False)), (main([]), (True, True))):
            for growing, want in zip(GROWINGS, plain):
                self.assertIs(self.check(program, growing) is None, want)

    def test_drawn_programs(self):
        source = random.Random(82)
        found = {}
        for _ in range(500):
            program = dense_program(source, source.choice([("r", "s"), ("p", "r", "s"), ("p", "q", "r", "s")]))
            for growing in GROWINGS:
                try:
                    told = self.check(program, growing, 200)
                except TooMany:
                    continue
                if told is not None:
                    key = (told[0] if told[0] in "!^" else "name", told[1])
                    found[key] = found.get(key, 0) + 1
        self.assertLessEqual({("!", True), ("^", False), ("^", True), ("name", False), ("name", True)}, set(found))

    def test_shallow_programs(self):
        source = random.Random(821)
        wrong = 0
        for _ in range(250):
            program = drawn_program(source, names=("r", "s"))
            for growing in GROWINGS:
                wrong += self.check(program, growing, 4000) is not None
        self.assertGreater(wrong, 40)

    def test_the_store_alone(self):
        for growing in GROWINGS:
            run = wrong_run(STORED, growing)
            self.assertEqual([len(run[2]), played(STORED, run).is_over()], [5, True])
            self.assertEqual([place for place, _, _ in looks(STORED, run)], [("main", (2,)), ("main", (4,)), None])
            self.assertEqual(wrong_look(STORED, run), 2)

    def test_a_set_in_between_does_not_matter(self):
        for body in ([("take", "t", "s"), ("set", "s"), ("set", "t"), ("look", "t")],
                     [("cut", "t", "s"), ("set", "s"), ("set", "t"), ("set", "t"), ("take", "u", "t"), ("set", "u"), ("look", "u")],
                     [("cut", "t", "s"), ("keep", "t"), ("set", "s"), ("set", "s"), ("look", "s")],
                     [("take", "t", "s"), ("set", "s"), ("put", "t", "t"), ("set", "t"), ("cut", "t", "t"), ("look", "t")],
                     [("cut", "t", "s"), ("put", "t", "t"), ("set", "s"), ("look", "s")]):
            for growing in GROWINGS:
                self.assertIsNotNone(self.check(main(body), growing))

    def test_by_way_of_calls(self):
        told = (["p"], [("set", "p"), ("take", "q", "p"), ("set", "q")], "q")
        for body in ([("call", "t", "f", ("s",)), ("look", "s")], [("call", "t", "f", ("s",)), ("call", "s", "f", ("s",)), ("look", "s")],
                     [("take", "t", "s"), ("set", "s"), ("call", "u", "f", ("t",)), ("look", "u")],
                     [("take", "t", "s"), ("set", "s"), ("call", "t", "f", ("t",)), ("keep", "t")]):
            for growing in GROWINGS:
                self.assertIsNotNone(self.check(main(body, f=told), growing))

    def test_the_result_goes_out_of_two_calls(self):
        program = main([("call", "t", "f", ("s",)), ("look", "t")], f=(["p"], [("call", "q", "g", ("p",))], "q"),
                       g=(["p"], [("take", "q", "p"), ("set", "p")], "q"))
        for growing in GROWINGS:
            self.assertEqual(self.check(program, growing), ("q", False))

    def test_further_out(self):
        program = main([("call", "t", "f", ("s",)), ("look", "s")], f=(["p"], [("call", "q", "g", ("p",)), ("look", "q")], "q"),
                       g=(["p"], [("set", "p"), ("copy", "p", "p")], "p"))
        for growing in GROWINGS:
            self.assertEqual(self.check(program, growing), ("^", False))

    def test_by_an_either_and_a_loop(self):
        program = main([("take", "t", "s"), ("set", "s"), ("either", [[], [("new", "t")], [("loop", [("look", "t"), ("new", "t")])]])], "t")
        for growing in GROWINGS:
            self.assertEqual(self.check(program, growing), ("t", False))
            self.assertEqual(wrong_run(program, growing)[2][2:], ((2,), (1,), ()))

    def test_a_wrong_look_ahead_of_what_is_gone_for(self):
        program = main([("keep", "s"), ("take", "t", "s"), ("set", "s"), ("look", "t"), ("look", "t")])
        for growing in GROWINGS:
            run = wrong_run(program, growing)
            self.assertEqual(played(program, run).here(), ("main", (4,)))

    def test_most(self):
        for program in (GROWN, AGAIN, SET, PLAIN):
            for growing in GROWINGS:
                many = len(Table(program, growing))
                self.assertEqual(wrong_run(program, growing, most=many), wrong_run(program, growing))
                with self.assertRaises(TooMany) as caught:
                    wrong_run(program, growing, most=many - 1)
                self.assertEqual(caught.exception.limit, many - 1)

    def test_the_same_again(self):
        for program in (GROWN, AGAIN, SET):
            kept = program.functions()
            self.assertEqual(wrong_run(program, "spare"), wrong_run(Program(kept), "spare"))
            self.assertEqual(program.functions(), kept)


class IsWrongRun(unittest.TestCase):
    def test_wrong_runs(self):
        self.assertIs(is_wrong_run(GROWN, "spare", WRONG), True)
        self.assertIs(is_wrong_run(GROWN, "spare", listed_run(WRONG)), True)
        self.assertIs(is_wrong_run(GROWN, "spare", ("spare", [1, 1], [[1, 3], (), [1], (1,), []])), True)

    def test_another_growing(self):
        self.assertIs(is_wrong_run(GROWN, "exact", WRONG), False)
        self.assertIs(is_wrong_run(GROWN, "exact", ("exact", *WRONG[1:])), False)
        run = wrong_run(SET, "exact")
        self.assertIs(is_wrong_run(SET, "exact", run), True)
        self.assertIs(is_wrong_run(SET, "spare", run), False)
        self.assertIs(is_wrong_run(SET, "spare", ("spare", *run[1:])), True)

    def test_cut(self):
        for many in range(5):
            self.assertIs(is_wrong_run(GROWN, "spare", (*WRONG[:2], WRONG[2][:many])), False)
        run = wrong_run(STORED, "spare")
        for many in range(5):
            self.assertIs(is_wrong_run(STORED, "spare", (*run[:2], run[2][:many])), False)

    def test_more_steps_than_need_be(self):
        program = main([("take", "t", "s"), ("set", "s"), ("look", "t"), ("look", "s"), ("look", "t")])
        run = ("exact", (3, 1), ((), (1,), (), (), ()))
        for many in range(6):
            self.assertIs(is_wrong_run(program, "exact", (*run[:2], run[2][:many])), many > 2)

    def test_data_otherwise(self):
        for at, told in ((0, (2, 3)), (0, (1, 2)), (0, (1, 4)), (2, (2,)), (3, (2,)), (3, (3,)), (3, (1, 3)), (4, (1,)), (1, None), (1, ((),))):
            data = (*WRONG[2][:at], told, *WRONG[2][at + 1:])
            try:
                want = wrong_look(GROWN, (*WRONG[:2], data)) is not None
            except (ValueError, TypeError):
                want = False
            self.assertIs(is_wrong_run(GROWN, "spare", (*WRONG[:2], data)), want, data)
        self.assertIs(is_wrong_run(GROWN, "spare", (*WRONG[:2], WRONG[2][:3] + ((2, 5), ()))), False)
        self.assertIs(is_wrong_run(GROWN, "spare", (*WRONG[:2], ((1, 2), (), (1, 3), (1, 3), ()))), False)

    def test_begins(self):
        for begins in ((1,), (1, 1, 1), (), (0, 1), (1, True), (1, 1001), None, 1, "11", {1: 1, 2: 2}):
            self.assertIs(is_wrong_run(GROWN, "spare", ("spare", begins, WRONG[2])), False)

    def test_right_runs(self):
        right = ("exact", (1, 1), ((1,), (), (1,), (1,), ()))
        for many in range(6):
            self.assertIs(is_wrong_run(GROWN, "exact", (*right[:2], right[2][:many])), False)
        source = random.Random(822)
        for _ in range(60):
            program = drawn_program(source)
            machine = drawn_machine(source, program, "spare", 40)
            want = any(seen != plain for _, seen, plain in machine.looks())
            self.assertIs(is_wrong_run(program, "spare", machine.run()), want)
            self.assertIs(is_wrong_run(program, "exact", machine.run()), False)

    def test_the_program_and_any_other_value(self):
        for thing in STRANGE + (GROWN, Machine(GROWN, "spare", (1, 1)), list(WRONG), WRONG[:2], WRONG + ((),), WRONG[2], (WRONG,)):
            self.assertIs(is_wrong_run(GROWN, "spare", thing), False)
        for thing in STRANGE:
            for k in range(3):
                self.assertIs(is_wrong_run(GROWN, "spare", (*WRONG[:k], thing, *WRONG[k + 1:])), False)


class SeenWrong(unittest.TestCase):
    def test_its_three_parts(self):
        self.assertEqual(seen_wrong(GROWN, WRONG), (0, [0, 2, 4], [0, 2, 3]))
        self.assertEqual(seen_wrong(GROWN, listed_run(WRONG)), (0, [0, 2, 4], [0, 2, 3]))
        program = main([("look", "s"), ("take", "t", "s"), ("set", "s"), ("look", "s"), ("look", "t"), ("look", "t")])
        self.assertEqual(seen_wrong(program, ("exact", (2, 1), ((), (), (1,), (), (), ()))), (2, [0, 3], [0, 1]))

    def test_the_store(self):
        self.assertEqual(seen_wrong(STORED, ("exact", (2,), ((), (1,), (), (3,), ()))), (2, [0, 2], [0, 1]))
        self.assertIsNone(seen_wrong(STORED, ("exact", (2,), ((), (1,), (), (3,)))))

    def test_all_is_right(self):
        self.assertIsNone(seen_wrong(GROWN, ("exact", (1, 1), ((1,), (), (1,), (1,), ()))))
        self.assertIsNone(seen_wrong(GROWN, (*WRONG[:2], WRONG[2][:4])))
        self.assertIsNone(seen_wrong(GROWN, ("spare", (1, 1), ())))

    def test_drawn_runs(self):
        source = random.Random(823)
        wrong = 0
        for _ in range(200):
            program = drawn_program(source, names=("r", "s"))
            run = drawn_machine(source, program, source.choice(GROWINGS), 50).run()
            kept = copy.deepcopy(listed_run(run))
            at = wrong_look(program, run)
            told = seen_wrong(program, kept)
            self.assertEqual(told, None if at is None else (at, *looks(program, run)[at][1:]))
            self.assertEqual(kept, listed_run(run))
            wrong += told is not None
        self.assertGreater(wrong, 4)

    def test_lists_changed_afterwards(self):
        first = seen_wrong(GROWN, WRONG)
        self.assertFalse(has_a_list_twice(first) or share_a_list(first, seen_wrong(GROWN, WRONG)))
        spoil(first)
        self.assertEqual(seen_wrong(GROWN, WRONG), (0, [0, 2, 4], [0, 2, 3]))


if __name__ == "__main__":
    unittest.main()
