"""Runs [41]."""
import copy
import random
import time
import types
import unittest

from sparetails.errors import Broken
from sparetails.machine import Machine
from sparetails.programs import Program
from sparetails.runs import is_run, looks, played, shared, walk, wrong_look
from tests.drawing import STRANGE, drawn_machine, drawn_program, has_a_list_twice, share_a_list, spoil

PUT = ("put", "s", "s")
GROWN = Program({"main": ([], [PUT, ("take", "t", "s"), ("put", "t", "t"), PUT, ("look", "t"), ("keep", "s")], "s")})
# The second puts write over one another.
WRONG = ("spare", (1, 1), ((1, 3), (), (1,), (1,), (), ()))
RIGHT = ("exact", (1, 1), ((1,), (), (1,), (1,), (), ()))
LOOPED = Program({
    "main": ([], [("loop", [("either", [[PUT], []])]), ("call", "t", "f", ("s", "s")), ("look", "t")], "s"),
    "f": (["u", "w"], [("cut", "u", "w"), ("new", "x"), ("look", "u")], "u"),
})
LONG = ("spare", (2, 1), ((1,), (0,), (1, 5), (1,), (1,), (0,), (4,), (2,), (5,), (), (), ()))


def listed(run):
    """The run with lists wherever it may have them."""
    return (run[0], list(run[1]), [list(told) for told in run[2]])


def walked(program, run):
    """The places of a walk, and the number with which it was broken, or None."""
    found = []
    try:
        for place in walk(program, run):
            found.append(place)
    except Broken as error:
        return found, error.at
    return found, None


ASKED = (
    played, looks, wrong_look, shared, lambda program, run: list(walk(program, run)),
)


class Played(unittest.TestCase):
    def test_a_run_that_ended(self):
        machine = played(GROWN, WRONG)
        self.assertIsInstance(machine, Machine)
        self.assertTrue(machine.is_over())
        self.assertEqual(machine.run(), WRONG)
        self.assertEqual(len(machine), 6)

    def test_lists_and_tuples(self):
        for program, run in ((GROWN, WRONG), (GROWN, RIGHT), (LOOPED, LONG)):
            self.assertEqual(played(program, listed(run)), played(program, run))
            self.assertEqual(played(program, listed(run)).run(), run)
            self.assertEqual(looks(program, listed(run)), looks(program, run))
            self.assertEqual(wrong_look(program, listed(run)), wrong_look(program, run))
            self.assertEqual(shared(program, listed(run)), shared(program, run))
            self.assertEqual(list(walk(program, listed(run))), list(walk(program, run)))
            self.assertIs(is_run(program, listed(run)), True)

    def test_no_step(self):
        run = ("exact", [2, 1], [])
        self.assertEqual(played(GROWN, run), Machine(GROWN, "exact", [2, 1]))
        self.assertEqual((looks(GROWN, run), wrong_look(GROWN, run), shared(GROWN, run)), ([], None, []))
        self.assertEqual(list(walk(GROWN, run)), [("main", (0,))])
        self.assertIs(is_run(GROWN, run), True)

    def test_main_that_is_over_at_once(self):
        empty = Program({"main": ([], [], "s")})
        self.assertEqual(list(walk(empty, ("spare", (3,), ()))), [("main", (0,))])
        self.assertTrue(played(empty, ("spare", (3,), ())).is_over())
        self.assertEqual(walked(empty, ("spare", (3,), ((),))), ([("main", (0,))], 0))

    def test_not_ended(self):
        for many in range(len(LONG[2]) + 1):
            run = (*LONG[:2], LONG[2][:many])
            machine = played(LOOPED, run)
            self.assertEqual(machine.is_over(), many == len(LONG[2]))
            self.assertEqual((len(machine), machine.run()), (many, run))
            self.assertIs(is_run(LOOPED, run), True)

    def test_the_machine_goes_on(self):
        machine = played(GROWN, (*WRONG[:2], WRONG[2][:2]))
        machine.step((1,))
        self.assertEqual(machine, played(GROWN, (*WRONG[:2], WRONG[2][:3])))
        self.assertEqual(machine.back(), (1,))
        self.assertEqual(machine.back(), ())


class Looks(unittest.TestCase):
    def test_a_wrong_look(self):
        self.assertEqual(looks(GROWN, WRONG), [
            (("main", (4,)), [0, 2, 4], [0, 2, 3]), (None, [0, 2, 4], [0, 2, 4])])
        self.assertEqual(wrong_look(GROWN, WRONG), 0)

    def test_right_looks(self):
        self.assertIsNone(wrong_look(GROWN, RIGHT))
        self.assertEqual(looks(GROWN, RIGHT), [
            (("main", (4,)), [0, 2, 3], [0, 2, 3]), (None, [0, 2, 4], [0, 2, 4])])

    def test_the_store_is_looked_at_when_the_run_is_over(self):
        program = Program({"main": ([], [("keep", "s"), ("look", "s"), ("keep", "s"), ("set", "s")], "s")})
        run = ["exact", (2,), ((), (), (), (1,))]
        self.assertEqual(looks(program, (*run[:2], run[2][:3])), [(("main", (1,)), [0, 1], [0, 1])])
        self.assertIsNone(wrong_look(program, (*run[:2], run[2][:3])))
        stored = (None, [0, 2], [0, 1])
        self.assertEqual(looks(program, tuple(run)), [(("main", (1,)), [0, 1], [0, 1]), stored, stored])
        self.assertEqual(wrong_look(program, tuple(run)), 1)

    def test_the_first_wrong_look_of_several(self):
        body = [("take", "t", "s"), ("set", "s"), ("look", "s"), ("look", "t"), ("look", "t")]
        program = Program({"main": ([], body, "s")})
        self.assertEqual(wrong_look(program, ("exact", (2, 1), ((), (0,), (), (), ()))), 1)

    def test_looks_of_several_calls(self):
        self.assertEqual([place for place, _, _ in looks(LOOPED, LONG)], [("f", (2,)), ("main", (2,))])
        self.assertEqual(looks(LOOPED, LONG)[0][1:], ([0, 1], [0, 1]) if LONG[2][7] == (2,) else None)


class Walks(unittest.TestCase):
    def test_places(self):
        main = [("main", address) for address in ((0,), (0, 0, 0), (0, 0, 0, 0, 0), (0,), (0, 0, 0), (0,), (1,))]
        self.assertEqual(list(walk(LOOPED, ("exact", (1, 1), ((1,), (0,), (1,), (1,), (1,), (0,))))), main)
        self.assertEqual(list(walk(LOOPED, ("exact", (1, 1), ((0,), (1,), (1,), (1,), (), (), ())))), [
            ("main", (0,)), ("main", (1,)), ("f", (0,)), ("f", (1,)), ("f", (2,)), ("f", (3,)), ("main", (2,)),
            ("main", (3,))])

    def test_it_is_a_generator(self):
        steps = walk(GROWN, WRONG)
        self.assertIsInstance(steps, types.GeneratorType)
        self.assertEqual(next(steps), ("main", (0,)))

    def test_left_early(self):
        steps = walk(GROWN, WRONG)
        self.assertEqual(next(steps), ("main", (0,)))
        self.assertEqual(next(steps), ("main", (1,)))
        steps.close()
        self.assertEqual(list(walk(GROWN, WRONG)), [("main", (at,)) for at in range(7)])

    def test_two_beside_one_another(self):
        run = listed(LONG)
        pairs = list(zip(walk(LOOPED, run), walk(LOOPED, run)))
        self.assertEqual([one for one, _ in pairs], [other for _, other in pairs])
        self.assertEqual([one for one, _ in pairs], list(walk(LOOPED, LONG)))
        ahead, behind = walk(LOOPED, run), walk(LOOPED, run)
        self.assertEqual([next(ahead) for _ in range(5)], [next(behind) for _ in range(5)])
        self.assertEqual(list(ahead), list(behind))

    def test_what_changes_behind_its_begin_means_nothing(self):
        run = listed(LONG)
        steps = walk(LOOPED, run)
        found = [next(steps)]
        run[2].reverse()
        run[2].clear()
        self.assertEqual(found + list(steps), list(walk(LOOPED, LONG)))

    def test_it_is_broken_only_behind_the_places_ahead(self):
        places = list(walk(LOOPED, LONG))
        for at in range(len(LONG[2])):
            data = [*LONG[2][:at], "s", *LONG[2][at + 1:]]
            steps = walk(LOOPED, (*LONG[:2], data))
            self.assertEqual([next(steps) for _ in range(at + 1)], places[:at + 1])
            with self.assertRaises(Broken) as caught:
                next(steps)
            self.assertEqual(caught.exception.at, at)


class BrokenRuns(unittest.TestCase):
    def broken(self, program, run, at):
        for asked in ASKED:
            with self.assertRaises(Broken) as caught:
                asked(program, run)
            self.assertEqual(caught.exception.at, at)
        places, told = walked(program, run)
        self.assertEqual((len(places), told), (at + 1, at))
        self.assertIs(is_run(program, run), False)

    def test_each_step_put_otherwise(self):
        for program, run in ((LOOPED, LONG), (GROWN, WRONG), (GROWN, RIGHT)):
            for at, told in enumerate(run[2]):
                others = [
                    told + (1,), told + (10 ** 40,), told[:-1] if told else (1,), True, False, "s", "", None, 0, {},
                    *[told[:k] + (worth,) + told[k + 1:] for k in range(len(told)) for worth in (-1, 0 - 10 ** 39, "1", True)],
                    *[told[:k] + (None,) + told[k + 1:] for k in range(len(told))],
                ]
                for other in others:
                    for rows in (tuple, list):
                        data = rows([*run[2][:at], other, *run[2][at + 1:]])
                        self.broken(program, (run[0], run[1], data), at)

    def test_beyond_the_bounds(self):
        for at, told in ((0, (2,)), (1, (2,)), (2, (1, 2)), (2, (0, 5)), (2, (1001, 2000)), (7, (0,)), (7, (4,)), (8, (1001,))):
            self.broken(LOOPED, (*LONG[:2], [*LONG[2][:at], told, *LONG[2][at + 1:]]), at)

    def test_steps_behind_the_end(self):
        self.broken(GROWN, (*WRONG[:2], WRONG[2] + ((),)), 6)
        self.broken(GROWN, (*WRONG[:2], WRONG[2] + ("s", ())), 6)

    def test_the_first_one_counts(self):
        self.broken(GROWN, (*WRONG[:2], ("s", "s", "s")), 0)
        self.broken(GROWN, (*WRONG[:2], (WRONG[2][0], True, "s")), 1)

    def test_a_room_where_none_is_told(self):
        self.broken(GROWN, (*WRONG[:2], (*WRONG[2][:2], (1, 3), *WRONG[2][3:])), 2)
        self.broken(GROWN, ("exact", *WRONG[1:]), 0)
        self.broken(GROWN, ("spare", *RIGHT[1:]), 0)


class IsRun(unittest.TestCase):
    def test_runs(self):
        for program, run in ((GROWN, WRONG), (GROWN, RIGHT), (LOOPED, LONG)):
            self.assertIs(is_run(program, run), True)

    def test_any_value(self):
        for thing in STRANGE + (GROWN, played(GROWN, WRONG), WRONG[2], WRONG[:2], WRONG + ((),)):
            self.assertIs(is_run(GROWN, thing), False)

    def test_any_value_in_each_part(self):
        for thing in STRANGE:
            self.assertIs(is_run(GROWN, ("exact", (1, 1), thing)), thing in ((), []) and isinstance(thing, (list, tuple)))
            self.assertIs(is_run(GROWN, (thing, *RIGHT[1:])), thing == "exact")
            self.assertIs(is_run(GROWN, ("exact", thing, RIGHT[2])), False)
            self.assertIs(is_run(GROWN, ("exact", (1, thing), RIGHT[2])), thing == 1 and thing is not True)
            self.assertIs(is_run(GROWN, ("exact", (1, 1), [thing])), thing in ((1,), [1]) and thing[0] is not True)

    def test_other_kinds(self):
        self.assertIs(is_run(GROWN, list(WRONG)), False)
        self.assertIs(is_run(GROWN, ("other", *WRONG[1:])), False)
        self.assertIs(is_run(GROWN, ("exact", *WRONG[1:])), False)
        for begins in ((1,), (1, 1, 1), (), (0, 1), (1, 1001), (True, 1), (1, -1), (1, "1"), {1: 1, 2: 1}, "ab", 2):
            self.assertIs(is_run(GROWN, ("spare", begins, WRONG[2])), False)
        for data in ({}, "", None, 0, {(): ()}):
            self.assertIs(is_run(GROWN, ("spare", (1, 1), data)), False)

    def test_a_step_out_or_twice(self):
        for at, told in enumerate(WRONG[2]):
            out = WRONG[2][:at] + WRONG[2][at + 1:]
            twice = WRONG[2][:at] + (told,) + WRONG[2][at:]
            for data in (out, twice):
                machine = Machine(GROWN, "spare", (1, 1))
                want = True
                for one in data:
                    wanted = machine.wanted()
                    if wanted is None or len(one) < len(wanted):
                        want = False
                        break
                    try:
                        machine.step(one)
                    except ValueError:
                        want = False
                        break
                self.assertIs(is_run(GROWN, ("spare", (1, 1), data)), want)
        self.assertIs(is_run(GROWN, (*WRONG[:2], WRONG[2][1:])), False)
        self.assertIs(is_run(GROWN, (*WRONG[:2], WRONG[2][:1] * 2)), False)
        self.assertIs(is_run(GROWN, (*WRONG[:2], WRONG[2][:5])), True)

    def test_runs_of_another_program(self):
        self.assertIs(is_run(LOOPED, WRONG), False)
        self.assertIs(is_run(GROWN, LONG), False)


class Shared(unittest.TestCase):
    def test_by_takes_and_cuts(self):
        body = [("take", "t", "s"), ("cut", "a", "t"), ("copy", "b", "a"), ("take", "c", "b"), ("new", "t")]
        program = Program({"main": ([], body, "s")})
        told = [shared(program, ("exact", (1,) * 5, data[:many])) for data in [((), (1,), (), (), (1,))] for many in range(6)]
        self.assertEqual(told, [
            [], [["s", "t"]], [["a", "s", "t"]], [["a", "s", "t"]], [["a", "s", "t"], ["b", "c"]],
            [["a", "s"], ["b", "c"]]])

    def test_ascending(self):
        body = [("take", "a", "d"), ("take", "b", "c")]
        program = Program({"main": ([], body, "s")})
        self.assertEqual(shared(program, ("exact", (1,) * 5, ((), ()))), [["a", "d"], ["b", "c"]])

    def test_behind_calls(self):
        program = Program({
            "main": ([], [("call", "t", "f", ("s", "s")), ("call", "s", "g", ("s",))], "s"),
            "f": (["u", "w"], [("put", "w", "w")], "u"), "g": (["u"], [("take", "v", "u")], "w"),
        })
        data = ((), (1,), (), (1, 1), (), ())
        told = [shared(program, ("exact", (1, 1), data[:many])) for many in range(7)]
        self.assertEqual(told, [[], [["u", "w"]], [], [["s", "t"]], [], [["u", "v"]], []])

    def test_the_last_call_alone(self):
        machine = played(LOOPED, (*LONG[:2], LONG[2][:7]))
        self.assertEqual(machine.here(), ("f", (0,)))
        self.assertEqual(shared(LOOPED, (*LONG[:2], LONG[2][:7])), [["u", "w"]])


class Drawn(unittest.TestCase):
    def setUp(self):
        source = random.Random(41)
        self.drawn = []
        for _ in range(150):
            program = drawn_program(source)
            growing = source.choice(["exact", "spare"])
            self.drawn.append((program, drawn_machine(source, program, growing, source.randint(0, 60))))

    def test_beside_machines(self):
        for program, machine in self.drawn:
            run = machine.run()
            self.assertEqual(played(program, run), machine)
            self.assertIs(is_run(program, run), True)
            self.assertEqual(looks(program, run), machine.looks())
            wrong = [at for at, (_, seen, plain) in enumerate(machine.looks()) if seen != plain]
            self.assertEqual(wrong_look(program, run), wrong[0] if wrong else None)
            on = {}
            for name, (array, _) in machine.names().items():
                on.setdefault(array, []).append(name)
            self.assertEqual(shared(program, run), sorted(names for names in on.values() if len(names) > 1))
            places = [machine.here()]
            while len(machine):
                machine.back()
                places.append(machine.here())
            self.assertEqual(list(walk(program, run)), places[::-1])

    def test_nothing_that_is_passed_in_changes(self):
        for program, machine in self.drawn:
            run = listed(machine.run())
            kept, functions = copy.deepcopy(run), program.functions()
            for asked in ASKED + (is_run,):
                first = asked(program, run)
                self.assertEqual(first, asked(program, run))
                if isinstance(first, list):
                    self.assertFalse(has_a_list_twice(first) or share_a_list(first, run))
                    want = copy.deepcopy(first)
                    spoil(first)
                    self.assertEqual(asked(program, run), want)
                self.assertEqual((run, program.functions()), (kept, functions))

    def test_runs_that_are_changed_behind_played(self):
        for program, machine in self.drawn[:40]:
            run = listed(machine.run())
            again = played(program, run)
            spoil(run[1])
            spoil(run[2])
            self.assertEqual(again, machine)


class LongRuns(unittest.TestCase):
    def test_two_hundred_steps(self):
        body = [("loop", [PUT, ("take", "t", "s"), ("look", "s"), ("cut", "t", "t")])]
        program = Program({"main": ([], body, "s")})
        begun = time.time()
        for growing in ("exact", "spare"):
            machine = Machine(program, growing, (1, 1))
            while len(machine) < 200:
                word = len(machine) % 5
                length = machine.names()["s"][1]
                moves = length + 5 > machine.room_of(machine.names()["s"][0])
                data = [(1,), (5, 2 * length + 5) if growing == "spare" and moves else (5,), (), (), (1,)][word]
                machine.step(data)
            run = machine.run()
            self.assertEqual(len(list(walk(program, run))), 201)
            self.assertEqual(len(looks(program, run)), 40)
            self.assertIsNone(wrong_look(program, run))
            self.assertIs(is_run(program, run), True)
        self.assertLess(time.time() - begun, 5)


if __name__ == "__main__":
    unittest.main()
