"""Windows [30]."""
import random
import unittest

from sparetails.errors import BadRoom, NoCell, Wrong
from sparetails.rules import Told, doubled, exact
from sparetails.windows import Window
from tests.drawing import STRANGE

GREAT = int("9" * 40)


class Raised(ValueError):
    """What a rule raises here."""


class MadeOf(unittest.TestCase):
    def test_any_value(self):
        for thing in STRANGE + ((1, 2), [None], ["1"], [1, True], [False], [1, [2]], [1, "s"], {1: 2}, "12", b"12"):
            if thing == [1] and type(thing[0]) is int:
                continue
            for named in ({}, {"rule": None}, {"rule": doubled}, {"rule": 5}):
                with self.assertRaises(Wrong) as caught:
                    Window(thing, **named)
                self.assertEqual(caught.exception.place, 0)

    def test_room_is_the_number_of_marks(self):
        for marks in ([5], [5, 6], [0] * 1000, [GREAT, -GREAT, 0]):
            told = Window(marks)
            self.assertEqual((told.marks(), len(told), told.room, told.spare), (marks, len(marks), len(marks), 0))

    def test_the_rule_is_passed_by_keyword(self):
        with self.assertRaises(TypeError):
            Window([1], doubled)

    def test_no_rule_is_refused(self):
        for rule in STRANGE:
            told = Window([1, 2], rule=rule)
            self.assertEqual(told.cut(1).put([7]).marks(), [1, 7])
            self.assertEqual(told.marks(), [1, 7])

    def test_marks_are_copied(self):
        marks = [1, 2]
        told = Window(marks)
        marks[0] = 9
        marks.append(3)
        self.assertEqual(told.marks(), [1, 2])
        told.marks()[0] = 9
        told.marks().append(3)
        self.assertEqual(told.marks(), [1, 2])
        self.assertIsNot(told.marks(), told.marks())

    def test_marks_that_are_put_are_copied(self):
        for told in (Window([1]), Window([1, 0, 0]).cut(1)):
            marks = [2, 3]
            longer = told.put(marks)
            marks[0] = 9
            marks.append(4)
            self.assertEqual(longer.marks(), [1, 2, 3])
            self.assertEqual(longer.put(longer.marks()).marks(), [1, 2, 3, 1, 2, 3])


class Cells(unittest.TestCase):
    def test_each_cell(self):
        told = Window([5, 6, 7])
        self.assertEqual([told[k] for k in range(3)], [5, 6, 7])
        told[1] = GREAT
        told[0] = -1
        self.assertEqual(told.marks(), [-1, GREAT, 7])

    def test_cells_that_are_not_seen(self):
        told = Window([5, 6, 7, 8], rule=doubled).cut(3).put([9, 1, 2])
        self.assertEqual((len(told), told.room, told.spare), (6, 8, 2))
        short = told.cut(3)
        for window in (told, short, Window([1])):
            for k in (-1, -2, -len(window), len(window), len(window) + 1, window.room, 100, GREAT, -GREAT):
                before = (window.marks(), told.marks())
                with self.assertRaises(NoCell) as caught:
                    window[k]
                self.assertEqual(caught.exception.at, k)
                with self.assertRaises(NoCell) as caught:
                    window[k] = 77
                self.assertEqual(caught.exception.at, k)
                self.assertEqual((window.marks(), told.marks()), before)

    def test_a_write_is_seen_by_all_that_see_the_cell(self):
        one = Window([1, 2, 3])
        short, copy = one.cut(1), one.copied()
        other = one.cut(2)
        other[1] = 8
        self.assertEqual([one.marks(), other.marks(), short.marks(), copy.marks()], [[1, 8, 3], [1, 8], [1], [1, 2, 3]])
        short[0] = 9
        self.assertEqual([one.marks(), other.marks(), short.marks(), copy.marks()], [[9, 8, 3], [9, 8], [9], [1, 2, 3]])
        copy[0] = 4
        self.assertEqual([one.marks(), copy.marks()], [[9, 8, 3], [4, 2, 3]])

    def test_windows_are_not_iterated_over(self):
        with self.assertRaises(TypeError):
            list(Window([1]))
        with self.assertRaises(TypeError):
            iter(Window([1]))


class Asked(unittest.TestCase):
    def test_marks_in_windows(self):
        told = Window([0, 1, GREAT, -7])
        for mark in (0, 1, GREAT, -7):
            self.assertIs(mark in told, True)
            self.assertIs(mark not in told, False)
        for mark in (2, -1, 7, GREAT - 1):
            self.assertIs(mark in told, False)

    def test_only_integers_are_marks(self):
        told = Window([0, 1])
        for thing in STRANGE + (told, Window([1]), [0, 1], "1", (0,), [told]):
            if not isinstance(thing, int) or isinstance(thing, bool):
                self.assertIs(thing in told, False, thing)

    def test_marks_behind_the_window_are_not_in_it(self):
        told = Window([1, 2, 3])
        self.assertIs(3 in told.cut(2), False)
        self.assertIs(2 in told.cut(2), True)

    def test_equal_windows(self):
        told = Window([1, 2, 3])
        self.assertIs(told == told, True)
        self.assertIs(told == Window([1, 2, 3]), True)
        self.assertIs(told == Window([1, 2, 3, 4], rule=doubled).cut(3), True)
        self.assertIs(told == Window([1, 2], rule=doubled).put([3]), True)
        self.assertIs(told != told.copied(), False)
        for other in (told.cut(2), Window([1, 3, 2]), Window([1, 2, 3, 4]), Window([1, 2, 4])):
            self.assertIs(told == other, False)
            self.assertIs(other == told, False)
            self.assertIs(told != other, True)

    def test_a_window_is_equal_to_nothing_else(self):
        class Anything:
            def __eq__(self, other):
                return True

        told = Window([1])
        for thing in STRANGE + ([1], (1,), 1, True, "1", {1: 1}, Window, Anything()):
            self.assertIs(told == thing, False)
            self.assertIs(told != thing, True)
        for thing in STRANGE:
            self.assertIs(thing == told, False)

    def test_sharing(self):
        one = Window([1, 2])
        longer = one.put([3])
        for other, want in ((one, True), (one.cut(1), True), (one.cut(2), True), (one.copied(), False),
                            (longer, False), (Window([1, 2]), False), (one.cut(1).put([2]), True)):
            self.assertIs(one.shares(other), want)
            self.assertIs(other.shares(one), want)
        self.assertIs(one.cut(1).shares(one.cut(2)), True)
        self.assertIs(longer.cut(1).shares(longer), True)

    def test_room_and_spare_are_properties(self):
        self.assertIsInstance(Window.__dict__["room"], property)
        self.assertIsInstance(Window.__dict__["spare"], property)
        told = Window([1, 2, 3])
        self.assertEqual([told.cut(1).room, told.cut(1).spare, told.cut(3).spare], [3, 2, 0])
        with self.assertRaises(AttributeError):
            told.room = 4


class Cuts(unittest.TestCase):
    def test_cuts_of_cuts(self):
        told = Window([1, 2, 3, 4, 5])
        short = told.cut(4).cut(3).cut(2)
        self.assertEqual((short.marks(), len(short), short.room, short.spare), ([1, 2], 2, 5, 3))
        self.assertIs(short.shares(told), True)
        self.assertEqual(told.cut(5), told)
        self.assertEqual(told.marks(), [1, 2, 3, 4, 5])

    def test_cuts_of_none_and_of_too_many(self):
        told = Window([1, 2, 3, 4])
        short = told.cut(2)
        for window in (told, short):
            for many in (0, -1, -len(window), len(window) + 1, 100, GREAT):
                with self.assertRaises(NoCell) as caught:
                    window.cut(many)
                self.assertEqual(caught.exception.at, many)
        with self.assertRaises(NoCell):
            short.cut(4)

    def test_copies(self):
        told = Window([1, 2, 3], rule=doubled)
        copy = told.cut(2).copied()
        self.assertEqual((copy.marks(), copy.room, copy.spare), ([1, 2], 2, 0))
        copy[0] = 9
        self.assertEqual(told.marks(), [1, 2, 3])
        self.assertEqual(copy.put([4]).room, 4)


class Puts(unittest.TestCase):
    def test_puts_that_move(self):
        one = Window([1, 2])
        longer = one.put([3])
        self.assertEqual((longer.marks(), longer.room, longer.spare), ([1, 2, 3], 3, 0))
        self.assertIs(longer.shares(one), False)
        longer[0] = 9
        self.assertEqual(one.marks(), [1, 2])

    def test_puts_that_stay(self):
        one = Window([1, 2, 3, 4])
        longer = one.cut(1).put([8, 9])
        self.assertEqual((longer.marks(), longer.room, longer.spare), ([1, 8, 9], 4, 1))
        self.assertIs(longer.shares(one), True)
        self.assertEqual(one.marks(), [1, 8, 9, 4])

    def test_a_put_stays_just_as_long_as_there_is_room(self):
        for many in range(1, 7):
            one = Window([1], rule=Told([4])).put([2])
            longer = one.put(list(range(many)))
            self.assertIs(longer.shares(one), many <= 2)
            self.assertEqual(longer.room, 4 if many <= 2 else 2 + many)
            self.assertEqual(longer.marks(), [1, 2, *range(many)])
            self.assertEqual(one.marks(), [1, 2])

    def test_two_puts_behind_one_window(self):
        one = Window([1], rule=Told([9])).put([2])
        left, right = one.put([3, 4]), one.put([5])
        self.assertEqual([left.marks(), right.marks(), one.marks()], [[1, 2, 5, 4], [1, 2, 5], [1, 2]])
        longest = right.put([6, 7, 8])
        self.assertEqual([left.marks(), longest.marks()], [[1, 2, 5, 6], [1, 2, 5, 6, 7, 8]])

    def test_in_place_for_a_name_alone(self):
        for rule, shares in ((None, False), (doubled, False)):
            elder = name = Window([1, 2], rule=rule)
            name += [3]
            self.assertEqual([elder.marks(), name.marks(), name.shares(elder)], [[1, 2], [1, 2, 3], shares])
            self.assertEqual((len(elder), elder.room), (2, 2))
        base = Window([1, 2, 3, 4])
        elder = name = base.cut(1)
        name += [7, 8]
        self.assertEqual([elder.marks(), name.marks(), base.marks()], [[1], [1, 7, 8], [1, 7, 8, 4]])
        self.assertIsNot(elder, name)
        row = [base, base]
        row[0] += [9]
        self.assertEqual([len(one) for one in row], [5, 4])

    def test_rooms_are_those_of_the_rule(self):
        told = Window([1, 2], rule=lambda room, needed: room * 100 + needed)
        longer = told.put([3, 4, 5])
        self.assertEqual((longer.room, longer.spare, longer.marks()), (205, 200, [1, 2, 3, 4, 5]))
        great = Window([1], rule=lambda room, needed: GREAT).put([2])
        self.assertEqual((great.room, great.spare), (GREAT, GREAT - 2))
        self.assertIs(great.put([3] * 500).shares(great), True)
        least = Window([1, 2], rule=lambda room, needed: needed).put([3])
        self.assertEqual(least.room, 3)

    def test_windows_made_of_one_have_its_rule(self):
        def rule(room, needed):
            return needed + 50

        one = Window([1, 2, 3], rule=rule)
        name = one
        name += [4]
        for told in (one, one.cut(2).cut(1), one.copied(), one.put([4]), one.cut(1).put([2]), name, name.cut(1)):
            self.assertEqual(told.put([0] * 99).room, len(told) + 149)
            self.assertEqual(told.copied().put([0]).room, len(told) + 51)
        self.assertEqual(Window([1]).put([2]).put([3]).room, 3)

    def test_rooms_that_are_none(self):
        for size in STRANGE + (2, 3, -GREAT):
            if isinstance(size, int) and not isinstance(size, bool) and size > 3:
                continue
            one = Window([1, 2, 3], rule=lambda room, needed: size)
            short = one.cut(2)
            with self.assertRaises(BadRoom) as caught:
                one.put([4])
            self.assertIs(caught.exception.size, size)
            with self.assertRaises(BadRoom):
                short.put([4, 5])
            with self.assertRaises(BadRoom):
                name = short
                name += [7, 8]
            self.assertEqual([one.marks(), short.marks(), one.room, name.marks()], [[1, 2, 3], [1, 2], 3, [1, 2]])

    def test_what_a_rule_raises_goes_on(self):
        def rule(room, needed):
            raise Raised(room, needed)

        one = Window([1, 2, 3], rule=rule)
        with self.assertRaises(Raised) as caught:
            one.cut(2).put([4, 5])
        self.assertEqual(caught.exception.args, (3, 4))
        self.assertEqual((one.marks(), one.room), ([1, 2, 3], 3))
        self.assertEqual(one.cut(2).put([4]).marks(), [1, 2, 4])

    def test_a_rule_is_called_once_for_each_put_that_moves(self):
        rule = Told([4, 9])
        one = Window([1, 2], rule=rule)
        short = one.cut(1)
        self.assertEqual([one.copied() == one, 1 in one, len(one), one.room, one.spare, one[0]], [True, True, 2, 2, 0, 1])
        short.put([7])
        self.assertEqual(rule.asked(), [])
        longer = one.put([3])
        longer.put([4])
        self.assertEqual(rule.asked(), [(2, 3)])
        longest = longer.put([4, 5])
        self.assertEqual(rule.asked(), [(2, 3), (4, 5)])
        longest += [6, 7, 8, 9, 10]
        self.assertEqual(rule.asked(), [(2, 3), (4, 5), (9, 10)])

    def test_drawn_puts(self):
        """Windows beside rows of their own that know nothing of one another's lengths."""
        source = random.Random(30)
        for _ in range(200):
            rule = source.choice([None, exact, doubled, lambda room, needed: needed + 3])
            windows = [Window([0, 1], rule=rule)]
            cells = [[0, 1]]
            rooms = [2]
            told = [(0, 2)]
            for mark in range(2, 30):
                at = source.randrange(len(windows))
                array, length = told[at]
                act = source.choice(["put", "put", "cut", "set", "copy"])
                if act == "put":
                    many = source.randint(1, 4)
                    marks = list(range(mark * 10, mark * 10 + many))
                    windows.append(windows[at].put(marks))
                    if length + many <= rooms[array]:
                        cells[array][length:length + many] = marks
                    else:
                        cells.append(cells[array][:length] + marks)
                        rooms.append(length + many if rule is None else rule(rooms[array], length + many))
                        array = len(cells) - 1
                    told.append((array, length + many))
                if act == "cut":
                    many = source.randint(1, length)
                    windows.append(windows[at].cut(many))
                    told.append((array, many))
                if act == "set":
                    cell = source.randrange(length)
                    windows[at][cell] = -mark
                    cells[array][cell] = -mark
                if act == "copy":
                    windows.append(windows[at].copied())
                    cells.append(cells[array][:length])
                    rooms.append(length)
                    told.append((len(cells) - 1, length))
            for window, (array, length) in zip(windows, told):
                self.assertEqual(window.marks(), cells[array][:length])
                self.assertEqual((window.room, window.spare, len(window)), (rooms[array], rooms[array] - length, length))
                self.assertEqual([window.shares(other) for other in windows], [array == one for one, _ in told])


if __name__ == "__main__":
    unittest.main()
