"""Rules [31]."""
import unittest

from sparetails.errors import BadRoom, Wrong
from sparetails.rules import Told, doubled, exact
from sparetails.windows import Window
from tests.drawing import STRANGE

GREAT = int("9" * 40)


class Rules(unittest.TestCase):
    def test_exact(self):
        for room, needed in ((1, 2), (5, 6), (5, 100), (GREAT, GREAT), (1, GREAT)):
            self.assertEqual(exact(room, needed), needed)

    def test_doubled(self):
        for room, needed, want in ((1, 2, 2), (2, 3, 4), (5, 9, 10), (5, 10, 10), (5, 11, 11), (1, GREAT, GREAT),
                                   (GREAT, GREAT + 1, 2 * GREAT)):
            self.assertEqual(doubled(room, needed), want)

    def test_rooms_in_windows(self):
        self.assertEqual(Window([1], rule=exact).put([2, 3]).put([4]).room, 4)
        self.assertEqual(Window([1], rule=doubled).put([2]).put([3]).room, 4)
        self.assertEqual(Window([1], rule=doubled).put([2, 3, 4, 5]).put([6]).room, 10)


class ToldRooms(unittest.TestCase):
    def test_any_value(self):
        for thing in STRANGE + ((), (1,), [None], [1, True], ["1"], [1, [2]], {1: 1}, "12", Told([])):
            if isinstance(thing, list) and all(type(room) is int for room in thing):
                continue
            with self.assertRaises(Wrong) as caught:
                Told(thing)
            self.assertEqual(caught.exception.place, 0)

    def test_one_after_another(self):
        rule = Told([4, -1, GREAT])
        self.assertEqual([rule(1, 2), rule(3, 5), rule(7, 9), rule(1, 2), rule(8, 90)], [4, -1, GREAT, 2, 90])
        self.assertEqual(rule.asked(), [(1, 2), (3, 5), (7, 9), (1, 2), (8, 90)])

    def test_left(self):
        self.assertIsInstance(Told.__dict__["left"], property)
        rule = Told([4, 5])
        found = [rule.left]
        for _ in range(4):
            rule(1, 2)
            found.append(rule.left)
        self.assertEqual(found, [2, 1, 0, 0, 0])
        self.assertEqual((Told([]).left, Told([])(3, 4), Told([]).asked()), (0, 4, []))

    def test_lists_are_copied(self):
        rooms = [4, 5]
        rule = Told(rooms)
        rooms[0] = 9
        rooms.append(7)
        self.assertEqual([rule.left, rule(1, 2), rule(1, 2), rule(1, 2)], [2, 4, 5, 2])
        rule.asked().clear()
        self.assertEqual(rule.asked(), [(1, 2)] * 3)
        self.assertIsNot(rule.asked(), rule.asked())

    def test_queries_change_nothing(self):
        rule = Told([4])
        self.assertEqual([rule.left, rule.asked(), rule.left, rule.asked()], [1, [], 1, []])

    def test_puts_that_were_refused_are_told(self):
        rule = Told([1, 7])
        one = Window([1, 2], rule=rule)
        with self.assertRaises(BadRoom) as caught:
            one.put([3])
        self.assertEqual(caught.exception.size, 1)
        self.assertEqual((rule.asked(), rule.left), ([(2, 3)], 1))
        self.assertEqual(one.put([3]).room, 7)
        self.assertEqual((rule.asked(), rule.left), ([(2, 3), (2, 3)], 0))
        self.assertEqual(one.put([3, 4]).room, 4)
        self.assertEqual((rule.asked(), rule.left), ([(2, 3), (2, 3), (2, 4)], 0))

    def test_one_rule_for_several_windows(self):
        rule = Told([10, 20])
        left, right = Window([1], rule=rule), Window([1, 2], rule=rule)
        self.assertEqual([right.put([3]).room, left.put([2]).room], [10, 20])
        self.assertEqual(rule.asked(), [(2, 3), (1, 2)])


if __name__ == "__main__":
    unittest.main()
