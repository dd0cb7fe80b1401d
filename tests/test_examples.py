"""The examples of the document, as far as the modules that there are go; they are one session."""
import unittest

from sparetails.machine import Machine
from sparetails.places import after, all_places, entered, ways
from sparetails.programs import Program
from sparetails.rules import Told, doubled
from sparetails.statements import copying, made, read
from sparetails.windows import Window


class Examples(unittest.TestCase):
    def test_programs_and_places(self):
        body = [("loop", [("put", "s", "s"), ("either", [[("keep", "s")], []])]), ("call", "t", "f", ("s", "s"))]
        told = Program({"main": ([], body, "t"), "f": (["u", "w"], [("cut", "u", "w")], "u")})
        self.assertEqual([told.names("main"), told.calls("main"), len(all_places(told))], [["s", "t"], ["f"], 8])
        self.assertEqual(
            [ways(told, ("main", (0,))), ways(told, ("main", (0, 0, 1))), after(told, ("main", (0, 0, 1)))],
            [[("main", (0, 0, 0)), ("main", (1,))], [("main", (0,)), ("main", (0, 0, 1, 0, 0))], ("main", (0,))])
        self.assertEqual(
            [copying(("put", "s", "t")), made(("set", "s")), read(body[1]), entered(told, ("main", (0, 0, 1)), 1)],
            [("copyput", "s", "t"), None, ["s"], ("main", (0,))])

    def test_windows_and_rules(self):
        one = Window([5, 6], rule=doubled)
        other = one.put([7])
        self.assertEqual([other.marks(), other.room, other.spare, other.shares(one)], [[5, 6, 7], 4, 1, False])
        third = other.cut(2)
        third += [9]
        self.assertEqual([third.shares(other), other.marks(), third == other, third.cut(2) == one],
                         [True, [5, 6, 9], True, True])
        rule = Told([4])
        first = Window([1], rule=rule).put([2])
        second = first.put([3, 4, 5])
        self.assertEqual([first.room, second.room, rule.asked(), rule.left, 9 in second],
                         [4, 5, [(1, 2), (4, 5)], 0, False])

    def test_a_run(self):
        body = [("take", "t", "s"), ("put", "t", "t"), ("put", "s", "s"), ("look", "t")]
        both = Program({"main": ((), [("put", "s", "s")] + body, "s")})
        machine = Machine(both, "spare", (1, 1))
        for data in ((1, 3), (), (1,), (1,), ()):
            machine.step(data)
        self.assertEqual(machine.looks(), [(("main", (4,)), [0, 2, 4], [0, 2, 3])])
        self.assertEqual(machine.names(), {"s": (2, 3), "t": (2, 3)})
        machine = Machine(both, "exact", (1, 1))
        for data in ((1,), (), (1,), (1,), ()):
            machine.step(data)
        self.assertEqual([seen == plain for _, seen, plain in machine.looks()], [True])


if __name__ == "__main__":
    unittest.main()
