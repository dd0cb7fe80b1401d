"""The machine [40]."""
import random
import unittest

from sparetails.errors import NoArray, Nothing, Unfit, Unknown, Wrong
from sparetails.machine import Machine
from sparetails.places import after, entered, statement_at
from sparetails.programs import Program
from tests.drawing import (
    STRANGE, bounds_of_room, drawn_data, drawn_machine, drawn_program, has_a_list_twice, nested, share_a_list, spoil,
)

GREAT = int("9" * 40)


def main(*body, result="s", **others):
    return Program({"main": ([], list(body), result), **others})


def at(*address):
    return ("main", address)


def snapshot(machine):
    """All that the queries tell."""
    arrays = []
    while True:
        try:
            arrays.append((machine.room_of(len(arrays)), machine.cells_of(len(arrays))))
        except NoArray:
            break
    held = [(name, machine.marks(name), machine.plain(name)) for name in machine.names()]
    return (machine.here(), machine.is_over(), machine.wanted(), machine.names(), machine.calls(), machine.store(),
            machine.looks(), machine.run(), len(machine), arrays, held)


def behind(program, growing, begins, *data):
    """The Machine behind steps with these data."""
    machine = Machine(program, growing, begins)
    for told in data:
        machine.step(told)
    return machine


class Machines(unittest.TestCase):
    def unfit(self, machine, data, index):
        before = snapshot(machine)
        with self.assertRaises(Unfit) as caught:
            machine.step(data)
        self.assertIs(type(caught.exception.at), int)
        self.assertEqual(caught.exception.at, index, data)
        self.assertEqual(snapshot(machine), before)


class MadeOf(Machines):
    def wrong(self, place, *arguments):
        with self.assertRaises(Wrong) as caught:
            Machine(*arguments)
        self.assertEqual(caught.exception.place, place)

    def test_the_first_argument_that_is_not_as_described(self):
        good = main(("put", "s", "s"))
        for thing in STRANGE + (good.functions(), Program):
            self.wrong(0, thing, "exact", [1])
            self.wrong(0, thing, "none", [0])
            if thing != "exact":
                self.wrong(1, good, thing, [1])
                self.wrong(1, good, thing, None)
            if thing not in ((1,), [1]) or type(thing[0]) is not int:
                self.wrong(2, good, "exact", thing)
                self.wrong(2, good, "spare", thing)

    def test_begins(self):
        two = Program({"main": (["t"], [], "s")})
        for bad in ([], [1], [1, 1, 1], (1,), [0, 1], [1, 0], [1, 1001], [1001, 1], [-1, 1], [1, True], [True, 1],
                    [1, None], [1, "1"], [1, [1]], [1, GREAT], {0: 1, 1: 1}, "11", b"11"):
            self.wrong(2, two, "exact", bad)
        for good in ([1, 1], (1, 1000), [1000, 1], (3, 2)):
            self.assertEqual(Machine(two, "spare", good).run(), ("spare", tuple(good), ()))
        self.assertEqual(Machine(main(), "exact", (2,)).run(), ("exact", (2,), ()))

    def test_arrays_and_marks_of_the_begin(self):
        program = Program({"main": (["z", "b"], [("put", "k", "k")], "a")})
        machine = Machine(program, "exact", [1, 2, 3, 1])
        self.assertEqual(machine.names(), {"a": (0, 1), "b": (1, 2), "k": (2, 3), "z": (3, 1)})
        self.assertEqual(list(machine.names()), ["a", "b", "k", "z"])
        self.assertEqual([machine.cells_of(k) for k in range(4)], [[0], [1, 2], [3, 4, 5], [6]])
        self.assertEqual([machine.room_of(k) for k in range(4)], [1, 2, 3, 1])
        for name, marks in (("a", [0]), ("b", [1, 2]), ("k", [3, 4, 5]), ("z", [6])):
            self.assertEqual((machine.marks(name), machine.plain(name)), (marks, marks))
        self.assertEqual((machine.here(), len(machine), machine.store(), machine.looks()), (at(0), 0, [], []))
        self.assertEqual(machine.calls(), [(at(0), machine.names())])

    def test_an_empty_body_of_main(self):
        machine = Machine(main(), "spare", [2])
        self.assertEqual((machine.here(), machine.is_over(), machine.wanted(), machine.looks()), (at(0), True, None, []))
        for thing in ((), None, (1,), "x"):
            with self.assertRaises(Nothing):
                machine.step(thing)
        with self.assertRaises(Nothing):
            machine.back()
        self.assertEqual(machine.run(), ("spare", (2,), ()))

    def test_lists_that_were_passed_are_copied(self):
        begins, data = [2], [3]
        machine = Machine(main(("put", "s", "s")), "exact", begins)
        begins[0] = 7
        machine.step(data)
        data[0] = 9
        data.append(1)
        self.assertEqual(machine.run(), ("exact", (2,), ((3,),)))


class Statements(Machines):
    def test_new(self):
        for growing in ("exact", "spare"):
            machine = Machine(main(("new", "s"), ("look", "s")), growing, [2])
            self.assertEqual(machine.wanted(), [(1, 1000)])
            self.assertIsNone(machine.step((3,)))
            self.assertEqual((machine.names(), machine.cells_of(1), machine.room_of(1)), ({"s": (1, 3)}, [2, 3, 4], 3))
            self.assertEqual((machine.cells_of(0), machine.room_of(0)), ([0, 1], 2))
            self.assertEqual(machine.step(()), [2, 3, 4])

    def test_take(self):
        machine = Machine(main(("take", "t", "s"), ("put", "t", "t")), "spare", [2, 3])
        self.assertEqual(machine.wanted(), [])
        self.assertIsNone(machine.step([]))
        self.assertEqual(machine.names(), {"s": (0, 2), "t": (0, 2)})
        self.assertEqual((machine.marks("t"), machine.plain("t")), ([0, 1], [0, 1]))
        machine.step((1, 3))
        self.assertEqual(machine.names(), {"s": (0, 2), "t": (2, 3)})

    def test_cut(self):
        machine = Machine(main(("cut", "t", "s"), ("cut", "s", "t")), "exact", [4, 1])
        self.assertEqual(machine.wanted(), [(1, 4)])
        machine.step((3,))
        self.assertEqual(machine.names(), {"s": (0, 4), "t": (0, 3)})
        self.assertEqual((machine.marks("t"), machine.plain("t")), ([0, 1, 2], [0, 1, 2]))
        self.assertEqual(machine.wanted(), [(1, 3)])
        machine.step((1,))
        self.assertEqual(machine.names(), {"s": (0, 1), "t": (0, 3)})

    def test_a_put_that_moves(self):
        for growing, data, room in (("exact", (2,), 4), ("spare", (2, 4), 4), ("spare", (2, 9), 9),
                                    ("spare", [2, GREAT], GREAT)):
            machine = Machine(main(("put", "t", "s")), growing, [2, 1])
            self.assertEqual(machine.wanted(), [(1, 1000)])
            machine.step(data)
            self.assertEqual(machine.names(), {"s": (0, 2), "t": (2, 4)})
            self.assertEqual((machine.cells_of(2), machine.room_of(2)), ([0, 1, 3, 4], room))
            self.assertEqual((machine.plain("t"), machine.plain("s")), ([0, 1, 3, 4], [0, 1]))

    def test_a_put_that_stays(self):
        told = main(("put", "s", "s"), ("put", "t", "s"), ("put", "s", "s"), ("look", "t"))
        machine = behind(told, "spare", [1, 1], (1, 4), (2,))
        self.assertEqual(machine.names(), {"s": (2, 2), "t": (2, 4)})
        self.assertEqual(machine.cells_of(2), [0, 2, 3, 4])
        self.unfit(machine, (3,), 1)
        machine.step((1,))
        self.assertEqual(machine.names(), {"s": (2, 3), "t": (2, 4)})
        self.assertEqual(machine.cells_of(2), [0, 2, 5, 4])
        self.assertEqual(machine.step(()), [0, 2, 5, 4])
        self.assertEqual(machine.looks(), [(at(3), [0, 2, 5, 4], [0, 2, 3, 4])])

    def test_a_put_behind_a_cut_stays_with_exact_room_too(self):
        machine = behind(main(("cut", "t", "s"), ("put", "t", "t")), "exact", [4, 1], (1,))
        machine.step((3,))
        self.assertEqual(machine.names(), {"s": (0, 4), "t": (0, 4)})
        self.assertEqual((machine.marks("s"), machine.plain("s")), ([0, 5, 6, 7], [0, 1, 2, 3]))

    def test_just_as_much_room_as_is_needed(self):
        told = main(("put", "s", "s"), ("put", "s", "s"))
        for many, moves in ((2, False), (3, True)):
            machine = behind(told, "spare", [1], (1, 4))
            machine.step((many, 5) if moves else (many,))
            self.assertEqual(machine.names(), {"s": (2 if moves else 1, 2 + many)})

    def test_set(self):
        machine = Machine(main(("take", "t", "s"), ("set", "t")), "exact", [3, 1])
        machine.step(())
        self.assertEqual(machine.wanted(), [(0, 2)])
        machine.step((2,))
        self.assertEqual((machine.cells_of(0), machine.marks("s"), machine.plain("s"), machine.plain("t")),
                         ([0, 1, 4], [0, 1, 4], [0, 1, 2], [0, 1, 4]))
        self.assertEqual(machine.names(), {"s": (0, 3), "t": (0, 3)})

    def test_copy(self):
        machine = behind(main(("put", "s", "s"), ("copy", "t", "s"), ("set", "t")), "spare", [2, 1], (1, 9))
        self.assertEqual(machine.wanted(), [])
        machine.step(())
        self.assertEqual((machine.names()["t"], machine.cells_of(3), machine.room_of(3)), ((3, 3), [0, 1, 3], 3))
        machine.step((0,))
        self.assertEqual((machine.marks("s"), machine.marks("t"), machine.plain("t")), ([0, 1, 3], [4, 1, 3], [4, 1, 3]))

    def test_copycut(self):
        machine = Machine(main(("copycut", "t", "s")), "spare", [3, 1])
        self.assertEqual(machine.wanted(), [(1, 3)])
        machine.step((2,))
        self.assertEqual((machine.names()["t"], machine.cells_of(2), machine.room_of(2)), ((2, 2), [0, 1], 2))
        self.assertEqual(machine.plain("t"), [0, 1])

    def test_copyput(self):
        for growing, data, room in (("exact", (2,), 4), ("spare", (2, 4), 4), ("spare", (2, GREAT), GREAT)):
            machine = Machine(main(("copyput", "t", "s")), growing, [2, 1])
            self.assertEqual(machine.wanted(), [(1, 1000)])
            machine.step(data)
            self.assertEqual((machine.names()["t"], machine.cells_of(2), machine.room_of(2)), ((2, 4), [0, 1, 3, 4], room))
            self.assertEqual(machine.plain("t"), [0, 1, 3, 4])

    def test_a_copyput_never_stays(self):
        machine = behind(main(("put", "s", "s"), ("copyput", "s", "s")), "spare", [1], (1, 9))
        self.unfit(machine, (1,), 1)
        machine.step((1, 3))
        self.assertEqual(machine.names(), {"s": (2, 3)})
        machine = behind(main(("cut", "t", "s"), ("copyput", "t", "t")), "exact", [4, 1], (1,))
        machine.step((1,))
        self.assertEqual((machine.names()["t"], machine.room_of(2)), ((2, 2), 2))

    def test_statements_with_one_name_twice(self):
        told = main(("take", "s", "s"), ("cut", "s", "s"), ("put", "s", "s"), ("copy", "s", "s"), ("copycut", "s", "s"),
                    ("copyput", "s", "s"))
        machine = behind(told, "exact", [3], (), (2,), (1,), (), (3,), (2,))
        self.assertEqual((machine.names(), machine.marks("s"), machine.plain("s")),
                         ({"s": (3, 5)}, [0, 1, 3, 4, 5], [0, 1, 3, 4, 5]))
        self.assertIs(machine.is_over(), True)

    def test_keep_and_look(self):
        told = main(("keep", "s"), ("look", "s"), ("set", "s"), ("keep", "t"), ("look", "s"))
        machine = Machine(told, "exact", [2, 1])
        self.assertEqual(machine.wanted(), [])
        self.assertIsNone(machine.step(()))
        self.assertEqual(machine.store(), [(0, 2)])
        self.assertEqual(machine.step(()), [0, 1])
        machine.step((0,))
        self.assertIsNone(machine.step([]))
        self.assertEqual((machine.store(), machine.looks()), ([(0, 2), (1, 1)], [(at(1), [0, 1], [0, 1])]))
        self.assertEqual(machine.step(()), [3, 1])
        self.assertEqual(machine.looks(), [
            (at(1), [0, 1], [0, 1]), (at(4), [3, 1], [3, 1]), (None, [3, 1], [0, 1]), (None, [2], [2]),
        ])

    def test_the_store_is_looked_at_only_when_the_run_is_over(self):
        told = main(("call", "t", "f", ("s",)), ("set", "s"), f=(["p"], [("keep", "p")], "p"))
        machine = behind(told, "exact", [2, 1], (), ())
        self.assertEqual((machine.here(), machine.looks()), (("f", (1,)), []))
        machine.step(())
        self.assertEqual(machine.looks(), [])
        machine.step((1,))
        self.assertEqual(machine.looks(), [(None, [0, 3], [0, 1])])
        machine.back()
        self.assertEqual(machine.looks(), [])

    def test_either(self):
        told = main(("either", [[], [("look", "s")], [("new", "s")]]), ("keep", "s"))
        for b, here in ((0, at(1)), (1, at(0, 1, 0)), (2, at(0, 2, 0))):
            machine = Machine(told, "exact", [1])
            self.assertEqual(machine.wanted(), [(0, 2)])
            self.assertIsNone(machine.step((b,)))
            self.assertEqual((machine.here(), len(machine)), (here, 1))
        machine.step((1,))
        self.assertEqual(machine.here(), at(1))
        self.assertEqual(Machine(main(("either", [[]])), "exact", [1]).wanted(), [(0, 0)])

    def test_loop(self):
        machine = Machine(main(("loop", [("look", "s"), ("set", "s")]), ("keep", "s")), "exact", [1])
        self.assertEqual(machine.wanted(), [(0, 1)])
        for _ in range(3):
            machine.step((1,))
            self.assertEqual(machine.here(), at(0, 0, 0))
            machine.step(())
            machine.step((0,))
            self.assertEqual(machine.here(), at(0))
        self.assertIsNone(machine.step((0,)))
        self.assertEqual((machine.here(), [look[1] for look in machine.looks()]), (at(1), [[0], [1], [2]]))

    def test_loops_with_empty_bodies(self):
        machine = Machine(main(("loop", []), ("loop", [("loop", [])])), "exact", [1])
        for _ in range(3):
            machine.step((1,))
            self.assertEqual((machine.here(), machine.wanted()), (at(0), [(0, 1)]))
        machine.step((0,))
        machine.step((1,))
        self.assertEqual(machine.here(), at(1, 0, 0))
        machine.step((1,))
        self.assertEqual(machine.here(), at(1, 0, 0))
        machine.step((0,))
        self.assertEqual(machine.here(), at(1))
        machine.step((0,))
        self.assertIs(machine.is_over(), True)
        self.assertEqual(len(machine), 8)


class Calls(Machines):
    def test_windows_are_passed(self):
        told = main(("call", "r", "f", ("s", "t")), f=(["w", "u"], [("put", "a", "u")], "a"))
        machine = Machine(told, "exact", [1, 2, 3])
        self.assertEqual(machine.wanted(), [(1, 1000)])
        self.assertIsNone(machine.step((2,)))
        self.assertEqual(machine.here(), ("f", (0,)))
        self.assertEqual(machine.names(), {"a": (3, 2), "u": (2, 3), "w": (1, 2)})
        self.assertEqual(list(machine.names()), ["a", "u", "w"])
        self.assertEqual((machine.marks("w"), machine.plain("u"), machine.plain("a")), ([1, 2], [3, 4, 5], [6, 7]))
        self.assertEqual(machine.calls(), [(at(0), {"r": (0, 1), "s": (1, 2), "t": (2, 3)}),
                                           (("f", (0,)), {"a": (3, 2), "u": (2, 3), "w": (1, 2)})])
        machine.step((1,))
        self.assertEqual((machine.here(), machine.wanted(), machine.is_over()), (("f", (1,)), [], False))
        self.unfit(machine, (1,), 0)
        self.assertIsNone(machine.step(()))
        self.assertEqual((machine.here(), machine.is_over()), (at(1), True))
        self.assertEqual(machine.names(), {"r": (4, 4), "s": (1, 2), "t": (2, 3)})
        self.assertEqual((machine.marks("r"), machine.plain("r")), ([3, 4, 5, 8], [3, 4, 5, 8]))

    def test_names_of_the_called_function_begin_ascending(self):
        told = main(("call", "s", "f", ("s",)), f=(["m"], [("take", "z", "a"), ("keep", "c")], "b"))
        machine = Machine(told, "spare", [1])
        self.assertEqual(machine.wanted(), [(1, 1000)] * 4)
        machine.step((1, 2, 1, 3))
        self.assertEqual(machine.names(), {"a": (1, 1), "b": (2, 2), "c": (3, 1), "m": (0, 1), "z": (4, 3)})
        self.assertEqual([machine.cells_of(k) for k in range(1, 5)], [[1], [2, 3], [4], [5, 6, 7]])
        self.assertEqual([machine.room_of(k) for k in range(1, 5)], [1, 2, 1, 3])

    def test_each_name_has_a_list_of_its_own(self):
        told = main(("call", "t", "f", ("s",)), f=(["p"], [("set", "p")], "p"))
        machine = behind(told, "exact", [2, 1], (), (1,))
        self.assertEqual(machine.plain("p"), [0, 3])
        machine.step(())
        self.assertEqual((machine.marks("s"), machine.plain("s"), machine.plain("t")), ([0, 3], [0, 1], [0, 3]))

    def test_the_same_name_twice(self):
        told = main(("call", "t", "f", ("s", "s")), f=(["p", "q"], [("set", "p"), ("look", "q")], "q"))
        machine = behind(told, "exact", [2, 1], (), (0,))
        self.assertEqual(machine.names(), {"p": (0, 2), "q": (0, 2)})
        self.assertEqual((machine.plain("p"), machine.plain("q")), ([3, 1], [0, 1]))
        self.assertEqual(machine.step(()), [3, 1])
        machine.step(())
        self.assertEqual((machine.names(), machine.plain("t")), ({"s": (0, 2), "t": (0, 2)}, [0, 1]))

    def test_a_result_that_is_a_parameter(self):
        told = main(("call", "s", "f", ("s",)), ("look", "s"), f=(["p"], [("put", "p", "p")], "p"))
        machine = behind(told, "spare", [1], (), (1, 3), ())
        self.assertEqual((machine.names(), machine.step(())), ({"s": (1, 2)}, [0, 1]))

    def test_a_function_with_an_empty_body(self):
        told = main(("call", "s", "f", ()), f=((), (), "k"))
        machine = behind(told, "exact", [1], (2,))
        self.assertEqual((machine.here(), machine.is_over(), machine.wanted()), (("f", (0,)), False, []))
        machine.step(())
        self.assertEqual((machine.names(), machine.is_over()), ({"s": (1, 2)}, True))

    def test_calls_in_calls(self):
        told = main(("call", "s", "f", ("s",)), f=(["p"], [("call", "p", "g", ("p", "q"))], "p"),
                    g=(["a", "b"], [("keep", "a"), ("keep", "b")], "b"))
        machine = behind(told, "exact", [1], (2,), (), ())
        self.assertEqual(machine.calls(), [(at(0), {"s": (0, 1)}), (("f", (0,)), {"p": (0, 1), "q": (1, 2)}),
                                           (("g", (1,)), {"a": (0, 1), "b": (1, 2)})])
        machine.step(())
        machine.step(())
        self.assertEqual((machine.here(), machine.names()), (("f", (1,)), {"p": (1, 2), "q": (1, 2)}))
        machine.step(())
        self.assertEqual((machine.here(), machine.names(), machine.store()), (at(1), {"s": (1, 2)}, [(0, 1), (1, 2)]))

    def test_recursion_in_loops(self):
        again = ("loop", [("put", "p", "p"), ("call", "r", "f", ("p",))])
        told = main(("call", "t", "f", ("s",)), f=(["p"], [again, ("keep", "p")], "p"))
        machine = behind(told, "exact", [1, 1], (1,), (1,), (2,), (1,), (1,), (1,))
        self.assertEqual([place for place, _ in machine.calls()], [at(0), ("f", (0, 0, 1)), ("f", (0, 0, 1))])
        machine.step((1,))
        self.assertEqual(len(machine.calls()), 4)
        for data in ((0,), (), ()):
            machine.step(data)
        self.assertEqual(machine.here(), ("f", (0,)))
        self.assertEqual(len(machine.calls()), 3)

    def test_very_deep_calls(self):
        told = main(("call", "s", "f", ("s",)), f=(["p"], [("loop", [("call", "p", "f", ("p",))])], "p"))
        machine = Machine(told, "exact", [1])
        machine.step(())
        for _ in range(2000):
            machine.step((1,))
            machine.step(())
        self.assertEqual((len(machine.calls()), len(machine.calls()[7][1])), (2002, 1))
        twin = machine.copied()
        while not machine.is_over():
            machine.step((0,) if machine.here() == ("f", (0,)) else ())
        self.assertEqual(len(machine), 4001 + 2 * 2001)
        for _ in range(2 * 2001):
            machine.back()
        self.assertIs(machine == twin, True)
        self.assertEqual(machine.calls(), twin.calls())


class Data(Machines):
    def test_what_is_neither_a_list_nor_a_tuple(self):
        for told in (main(("look", "s")), main(("put", "s", "s")), main(("loop", []))):
            machine = Machine(told, "spare", [1])
            for thing in STRANGE + ("1", b"1", 1, {0: 1}, machine, told):
                if not isinstance(thing, (list, tuple)):
                    self.unfit(machine, thing, 0)

    def test_numbers_of_marks(self):
        for word in (("new", "s"), ("put", "s", "s"), ("copyput", "s", "s")):
            machine = Machine(main(word), "exact", [2])
            for bad in (0, -1, 1001, GREAT, -GREAT, True, False, None, "1", (1,), [1], b"1"):
                self.unfit(machine, (bad,), 0)
                self.unfit(machine, [bad, 5], 0)
            self.unfit(machine, (), 0)
            self.unfit(machine, (1, 1), 1)
            self.unfit(machine, (1, None), 1)
            self.unfit(machine, [1, 4, 4], 1)
            for good in ((1,), [1000], (1000,)):
                self.assertIsNone(machine.copied().step(good))

    def test_rooms(self):
        for word in ("put", "copyput"):
            machine = Machine(main((word, "s", "s")), "spare", [3])
            for bad in (4, 0, -5, True, None, "5", [5], -GREAT):
                self.unfit(machine, (2, bad), 1)
                self.unfit(machine, (2, bad, bad), 1)
                self.unfit(machine, (0, bad), 0)
            self.unfit(machine, (2,), 1)
            self.unfit(machine, (), 0)
            self.unfit(machine, (1001, 2000), 0)
            self.unfit(machine, (2, 5, 5), 2)
            self.unfit(machine, [2, 5, None, 1], 2)
            for good in ((2, 5), [2, 6], (1000, 1003), (2, GREAT)):
                self.assertIsNone(machine.copied().step(good))

    def test_lengths_and_cells(self):
        for word, low, high in (("cut", 1, 3), ("copycut", 1, 3), ("set", 0, 2)):
            told = main((word, "s") if word == "set" else (word, "t", "s"))
            begins = [3] if word == "set" else [3, 5]
            for growing in ("exact", "spare"):
                machine = Machine(told, growing, begins)
                self.assertEqual(machine.wanted(), [(low, high)])
                for bad in (low - 1, high + 1, -3, GREAT, True, False, None, "1", []):
                    self.unfit(machine, (bad,), 0)
                self.unfit(machine, (), 0)
                self.unfit(machine, (high, high), 1)
                for good in range(low, high + 1):
                    self.assertIsNone(machine.copied().step([good]))

    def test_ways(self):
        for word, most in ((("either", [[], [], []]), 2), (("loop", []), 1), (("either", [[]]), 0)):
            machine = Machine(main(word), "exact", [1])
            for bad in (-1, most + 1, True, False, None, "0", GREAT, [0]):
                self.unfit(machine, (bad,), 0)
            self.unfit(machine, [], 0)
            self.unfit(machine, (most, 0), 1)

    def test_calls(self):
        told = main(("call", "s", "f", ("s",)), f=(["m"], [("take", "z", "a")], "b"))
        machine = Machine(told, "spare", [1])
        for data, index in (((), 0), ((1,), 1), ((1, 1), 2), ((1, 1, 1, 1), 3), ((0, 1, 1), 0), ((1, 0, 1), 1),
                            ((1, 1, 1001), 2), ((1, True, 1), 1), ((1, 0), 1), ((1, None, 0, 5), 1), ((1, 1, "1", 1), 2)):
            self.unfit(machine, data, index)
            self.unfit(machine, list(data), index)
        machine.step([1000, 1, 1000])
        self.assertEqual(machine.names()["z"], (3, 1000))

    def test_no_data(self):
        told = main(("take", "t", "s"), ("copy", "t", "s"), ("keep", "s"), ("look", "s"), ("call", "s", "f", ("s",)),
                    f=(["p"], [], "p"))
        machine = Machine(told, "spare", [1, 1])
        while not machine.is_over():
            self.assertEqual(machine.wanted(), [])
            for data in ((1,), [0], (None,), ((),), (1, 2, 3)):
                self.unfit(machine, data, 0)
            machine.step(())

    def test_the_run_is_over(self):
        machine = behind(main(("look", "s")), "exact", [1], ())
        self.assertIsNone(machine.wanted())
        for thing in STRANGE:
            before = snapshot(machine)
            with self.assertRaises(Nothing):
                machine.step(thing)
            self.assertEqual(snapshot(machine), before)

    def test_drawn_data(self):
        """The least index at which data do not fit, found by looking at every index."""
        source = random.Random(41)
        things = (0, 1, 2, 3, 4, 7, 999, 1000, 1001, -1, GREAT, True, False, None, "1", (1,), [1], {})
        for _ in range(150):
            program = drawn_program(source)
            machine = drawn_machine(source, program, source.choice(["exact", "spare"]), source.randint(0, 25))
            if machine.is_over():
                continue
            for _ in range(30):
                data = [source.choice(things) for _ in range(source.randint(0, 4))]
                if source.random() < 0.5:
                    data = list(drawn_data(source, program, machine)) + data[:source.randint(0, 1)]
                index = self.least_unfit(program, machine, data)
                if index is None:
                    twin = machine.copied()
                    twin.step(data)
                    self.assertEqual(twin.run()[2], machine.run()[2] + (tuple(data),))
                else:
                    self.unfit(machine, data, index)

    def least_unfit(self, program, machine, data):
        bounds = list(machine.wanted())
        fits = [type(one) is int and low <= one <= high for one, (low, high) in zip(data, bounds)]
        if bounds and fits[:1] == [True]:
            room = bounds_of_room(program, machine, data[0])
            if room is not None:
                bounds.append(room)
        bad = [k for k in range(max(len(data), len(bounds)))
               if k >= len(data) or k >= len(bounds) or type(data[k]) is not int
               or not bounds[k][0] <= data[k] <= bounds[k][1]]
        return min(bad, default=None)


class Back(Machines):
    def test_nothing_to_take_back(self):
        machine = Machine(main(("look", "s")), "exact", [1])
        before = snapshot(machine)
        with self.assertRaises(Nothing):
            machine.back()
        machine.step(())
        self.assertEqual(machine.back(), ())
        with self.assertRaises(Nothing):
            machine.back()
        self.assertEqual(snapshot(machine), before)

    def test_data_come_back_as_tuples(self):
        machine = behind(main(("put", "s", "s"), ("set", "s")), "spare", [1], [2, 7], [1])
        first, second = machine.back(), machine.back()
        self.assertEqual((first, second), ((1,), (2, 7)))
        self.assertIs(type(second), tuple)

    def test_drawn_steps_taken_back_and_done_again(self):
        source = random.Random(42)
        for _ in range(120):
            program = drawn_program(source)
            machine = Machine(program, source.choice(["exact", "spare"]), [source.randint(1, 3) for _ in
                                                                          program.names("main")])
            seen = [snapshot(machine)]
            for _ in range(60):
                if len(machine) and source.random() < 0.3:
                    for _ in range(source.randint(1, len(machine))):
                        data = machine.run()[2][-1]
                        self.assertEqual(machine.back(), data)
                        seen.pop()
                        self.assertEqual(snapshot(machine), seen[-1])
                elif not machine.is_over():
                    machine.step(drawn_data(source, program, machine))
                    seen.append(snapshot(machine))
            again = Machine(program, *machine.run()[:2])
            for k, data in enumerate(machine.run()[2]):
                self.assertEqual(snapshot(again), seen[k])
                again.step(data)
            self.assertEqual(snapshot(again), seen[-1])

    def test_what_was_written_over_comes_back(self):
        told = main(("cut", "t", "s"), ("put", "t", "t"), ("set", "s"), ("either", [[("new", "s")], [("new", "t")]]))
        machine = behind(told, "exact", [4, 1], (1,), (2,), (3,))
        self.assertEqual(machine.cells_of(0), [0, 5, 6, 7])
        machine.back()
        self.assertEqual(machine.cells_of(0), [0, 5, 6, 3])
        machine.back()
        self.assertEqual((machine.cells_of(0), machine.marks("s"), machine.plain("t")), ([0, 1, 2, 3], [0, 1, 2, 3], [0]))
        machine.step((3,))
        self.assertEqual(machine.cells_of(0), [0, 5, 6, 7])


class Copied(Machines):
    def test_copies_go_on_by_themselves(self):
        source = random.Random(43)
        for _ in range(100):
            program = drawn_program(source)
            machine = drawn_machine(source, program, source.choice(["exact", "spare"]), source.randint(0, 30))
            twin = machine.copied()
            self.assertIs(twin == machine, True)
            before = snapshot(machine)
            self.assertEqual(snapshot(twin), before)
            while len(twin) and source.random() < 0.6:
                twin.back()
            while not twin.is_over() and source.random() < 0.9:
                twin.step(drawn_data(source, program, twin))
            self.assertEqual(snapshot(machine), before)
            after_twin = snapshot(twin)
            while len(machine):
                machine.back()
            self.assertEqual(snapshot(twin), after_twin)
            while len(twin):
                twin.back()
            self.assertEqual(snapshot(twin), snapshot(machine))


class Queries(Machines):
    def test_arrays_that_there_are_not(self):
        machine = behind(main(("new", "s")), "exact", [2], (1,))
        self.assertEqual([machine.room_of(0), machine.room_of(1)], [2, 1])
        for index in (2, 3, -1, -2, GREAT, -GREAT):
            for asked in (machine.room_of, machine.cells_of):
                with self.assertRaises(NoArray) as caught:
                    asked(index)
                self.assertEqual(caught.exception.index, index)
        machine.back()
        with self.assertRaises(NoArray):
            machine.room_of(1)

    def test_names_that_there_are_not(self):
        told = main(("call", "s", "f", ("s",)), f=(["p"], [], "p"))
        machine = Machine(told, "exact", [1])
        for asked in (machine.marks, machine.plain):
            for name in ("p", "t", "main", "abcdefgh"):
                with self.assertRaises(Unknown) as caught:
                    asked(name)
                self.assertIs(caught.exception.name, name)
            self.assertEqual(asked("s"), [0])
        machine.step(())
        for asked in (machine.marks, machine.plain):
            with self.assertRaises(Unknown):
                asked("s")
            self.assertEqual(asked("p"), [0])

    def test_what_is_returned_is_the_callers(self):
        source = random.Random(44)
        for _ in range(80):
            program = drawn_program(source)
            machine = drawn_machine(source, program, source.choice(["exact", "spare"]), source.randint(0, 40))
            before = snapshot(machine)
            name = source.choice(list(machine.names()))
            for asked in (machine.wanted, machine.names, machine.calls, machine.store, machine.looks,
                          lambda: machine.marks(name), lambda: machine.plain(name), lambda: machine.cells_of(0),
                          machine.run):
                first, second = asked(), asked()
                self.assertEqual(first, second)
                self.assertFalse(share_a_list(first, second))
                self.assertFalse(has_a_list_twice(first))
                spoil(first)
                self.assertEqual(snapshot(machine), before)
            if not machine.is_over():
                seen = machine.copied().step(drawn_data(source, program, machine))
                if seen is not None:
                    spoil(seen)

    def test_a_look_that_is_changed(self):
        machine = Machine(main(("look", "s"), ("look", "s")), "exact", [2])
        machine.step(()).append(7)
        self.assertEqual((machine.looks(), machine.step(())), ([(at(0), [0, 1], [0, 1])], [0, 1]))

    def test_runs_have_tuples_alone(self):
        machine = behind(main(("put", "s", "s"), ("look", "s")), "spare", [1], [1, 2], [])
        self.assertEqual(machine.run(), ("spare", (1,), ((1, 2), ())))
        self.assertEqual([type(one) for one in (machine.run()[1], machine.run()[2], *machine.run()[2])], [tuple] * 4)

    def test_truths(self):
        machine = Machine(main(("look", "s")), "exact", [1])
        self.assertIs(machine.is_over(), False)
        machine.step(())
        self.assertIs(machine.is_over(), True)

    def test_main_at_its_end_in_a_call_is_not_over(self):
        told = main(("call", "s", "f", ()), f=([], [], "s"))
        machine = behind(told, "exact", [1], (1,))
        self.assertIs(machine.is_over(), False)


class Equality(Machines):
    def test_equal_machines(self):
        told = main(("either", [[("new", "s")], [("new", "s")]]), ("put", "s", "s"))
        same = main(("either", ((("new", "s"),), [("new", "s")])), ("put", "s", "s"))
        one = behind(told, "exact", [1], (0,), (2,))
        for other, want in ((behind(same, "exact", (1,), [0], [2]), True), (one.copied(), True),
                            (behind(told, "exact", [1], (1,), (2,)), False), (behind(told, "spare", [1], (0,), (2,)), False),
                            (behind(told, "exact", [2], (0,), (2,)), False), (behind(told, "exact", [1], (0,)), False),
                            (behind(told, "exact", [1], (0,), (2,), (1,)), False),
                            (behind(main(*told.functions()["main"][1], ("look", "s")), "exact", [1], (0,), (2,)), False)):
            self.assertIs(one == other, want)
            self.assertIs(other == one, want)
            self.assertIs(one != other, not want)

    def test_what_was_taken_back_means_nothing(self):
        told = main(("loop", [("set", "s")]))
        one, other = behind(told, "exact", [2], (1,), (1,)), behind(told, "exact", [2], (1,), (0,), (0,))
        other.back()
        self.assertIs(one == other, False)
        one.back()
        other.back()
        self.assertIs(one == other, True)

    def test_a_machine_is_equal_to_nothing_else(self):
        class Anything:
            def __eq__(self, other):
                return True

        machine = Machine(main(), "exact", [1])
        for thing in STRANGE + (machine.run(), main(), Machine, Anything()):
            self.assertIs(machine == thing, False)
            self.assertIs(machine != thing, True)

    def test_lengths(self):
        machine = Machine(main(("look", "s"), ("look", "s")), "exact", [1])
        found = [len(machine)]
        machine.step(())
        found.append(len(machine))
        machine.step(())
        found.append(len(machine))
        machine.back()
        self.assertEqual([*found, len(machine)], [0, 1, 2, 1])


class Walks(Machines):
    def test_a_step_leads_where_places_say(self):
        source = random.Random(45)
        for _ in range(100):
            program = drawn_program(source, depth=4)
            machine = Machine(program, "exact", [1] * len(program.names("main")))
            for _ in range(50):
                if machine.is_over():
                    break
                place, statement = machine.here(), statement_at(program, machine.here())
                data = drawn_data(source, program, machine)
                machine.step(data)
                if statement is None:
                    continue
                if statement[0] == "call":
                    self.assertEqual(machine.here(), (statement[2], (0,)))
                elif statement[0] == "either":
                    self.assertEqual(machine.here(), entered(program, place, data[0]))
                elif statement[0] == "loop" and data == (1,):
                    self.assertEqual(machine.here(), entered(program, place, 0))
                else:
                    self.assertEqual(machine.here(), after(program, place))

    def test_deep_bodies(self):
        told = main(*nested(100, [("look", "s")]))
        machine = Machine(told, "exact", [1])
        for _ in range(100):
            machine.step((1,))
        self.assertEqual((machine.here(), machine.step(())), (("main", (0,) * 201), [0]))
        for _ in range(100):
            machine.step((0,))
        self.assertIs(machine.is_over(), True)


if __name__ == "__main__":
    unittest.main()
