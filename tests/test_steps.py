"""Steps of calls along rows [70]."""
import itertools
import random
import unittest

from sparetails.errors import TooMany
from sparetails.orders import lacking, level_of, only, placed, points_of
from sparetails.places import after, statement_at, ways
from sparetails.programs import Program
from sparetails.shapes import array_of, is_shape, shape_of
from sparetails.steps import all_entries, begin_row, behind, called, followers, spoiled
from sparetails.tables import Table
from sparetails.watching import alive, watched
from tests.drawing import dense_program, main, order_of

MAIN = ((), False)
# Between two levels there are cells enough for two points, in any order.
GAP = 4


def looking(statement, names="abst", **others):
    """A program with one statement behind which some names are watched, the others not alive."""
    return main([statement] + [("look", name) for name in names if name != "s"] + [("look", "s")] * ("s" in names), "s", **others)


def row(shape, address=(0,), function="main", entry=MAIN):
    return (function, entry, address, tuple(shape))


def shapes(program, growing, told):
    """The shapes of the followers of a row, which all stand at one place."""
    return [one[3] for one in followers(program, growing, told)]


class Lengths:
    """A row with lengths: each point of each array has one, and each statement is done with all data that matter."""

    def __init__(self, program, growing, told):
        self.program, self.growing, self.row = program, growing, told
        self.function, self.entry, self.address, shape = told
        self.place = (self.function, self.address)
        self.statement = statement_at(program, self.place)
        self.arrays = [{point: GAP * (k + 1) for k, level in enumerate(order) for point in level} for order in shape]

    def found(self):
        """The rows behind steps that spoil nothing, and the points that some step spoils."""
        rows, spoils = set(), set()
        for arrays, victims, place in self.steps():
            spoils |= victims
            if not victims:
                rows.add((self.function, self.entry, place[1], self.shape(arrays, place)))
        return sorted(rows), sorted(spoils)

    def shape(self, arrays, place):
        names = alive(self.program, place)
        kept = [{point: length for point, length in array.items() if point in names or point in ("+0", "+1", "=", "^", "!")}
                for array in arrays]
        return tuple(sorted(order_of(array) for array in kept if set(array) & {*names, "+0", "+1"}))

    def steps(self):
        """Tuples (arrays, what is spoiled, place) behind each step."""
        word, v = self.statement[:2]
        if word in ("either", "loop"):
            return [(self.arrays, set(), place) for place in ways(self.program, self.place)]
        place = after(self.program, self.place)
        self.later = [name for name in watched(self.program, place, self.entry[1]) if name != v] + ["^", "!"]
        if word == "look":
            return [(self.arrays, set(), place)]
        if word == "keep":
            arrays = [dict(array) for array in self.arrays]
            for array in arrays:
                if v in array:
                    array["!"] = max(array[v], array.get("!", 0))
            return [(arrays, set(), place)]
        if word == "set":
            mine = [array for array in self.arrays if v in array][0]
            return [(self.arrays, self.seeing(mine, cell), place) for cell in range(mine[v])]
        return [(self.given(v, *told[:2]), told[2], place) for told in self.made(word)]

    def seeing(self, array, cell):
        return {point for point, length in array.items() if point in self.later and cell < length}

    def given(self, v, at, told):
        """The arrays behind a statement that gives v a length on the array at, or a new array with these points."""
        arrays = [{point: length for point, length in array.items() if point != v} for array in self.arrays]
        if at is None:
            return arrays + [told]
        arrays[at][v] = told
        return arrays

    def made(self, word):
        """Tuples (index of the array or None, length or new array, what is spoiled) for all data."""
        v, w = self.statement[1], self.statement[-1]
        known = {v: 1, "=": 1}
        if word in ("new", "copy", "copycut"):
            return [(None, known, set())]
        moved = (None, known if self.growing == "exact" else {v: 1}, set())
        if word == "copyput":
            return [moved]
        at = [k for k, array in enumerate(self.arrays) if w in array][0]
        array = self.arrays[at]
        if word == "take":
            return [(at, array[w], set())]
        if word == "cut":
            return [(at, length, set()) for length in range(1, array[w] + 1)]
        # An array whose room is not told may have any.
        room = array.get("=", max(array.values()) + GAP)
        spoils = self.seeing(array, array[w])
        return [moved] + [(at, length, spoils) for length in range(array[w] + 1, room + 1)]


class Begins(unittest.TestCase):
    def test_main(self):
        program = Program({"main": (["b", "u"], [("look", "b"), ("look", "a"), ("new", "u")], "s")})
        self.assertEqual(begin_row(program, "main", MAIN), row([(("=", "a"),), (("=", "b"),), (("=", "s"),)]))

    def test_parameters(self):
        program = main([], f=(["p", "q"], [("look", "p"), ("look", "q"), ("look", "r")], "s"))
        entry = (((("+0",), ("=",)), (("+1", "^"),)), True)
        self.assertEqual(begin_row(program, "f", entry), (
            "f", entry, (0,), ((("+0", "p"), ("=",)), (("+1", "^", "q"),), (("=", "r"),), (("=", "s"),))))
        entry = (((("^",), ("+1",), ("+0", "=")),), False)
        self.assertEqual(begin_row(program, "f", entry), (
            "f", entry, (0,), ((("=", "r"),), (("=", "s"),), (("^",), ("+1", "q"), ("+0", "=", "p")))))

    def test_parameters_that_are_not_alive(self):
        program = main([], f=(["p", "q"], [("new", "p"), ("look", "q")], "p"))
        entry = (((("+0",),), (("+1", "="),)), False)
        self.assertEqual(begin_row(program, "f", entry), ("f", entry, (0,), ((("+0",),), (("+1", "=", "q"),))))
        program = main([], f=(["p", "q"], [], "r"))
        entry = (((("+1",), ("+0",)),), False)
        self.assertEqual(begin_row(program, "f", entry), ("f", entry, (0,), ((("+1",), ("+0",)), (("=", "r"),))))

    def test_the_order_of_parameters(self):
        program = main([], f=(["z", "a"], [("look", "a")], "z"))
        entry = (((("+0",), ("+1",)),), False)
        self.assertEqual(begin_row(program, "f", entry)[3], ((("+0", "z"), ("+1", "a")),))

    def test_no_name_alive(self):
        self.assertEqual(begin_row(main([("new", "s")]), "main", MAIN), row([]))


class Followers(unittest.TestCase):
    def test_at_a_call_and_at_an_end(self):
        program = main([("call", "s", "f", ("s",))], f=(["p"], [], "p"))
        for growing in ("exact", "spare"):
            for told in (row([(("=", "s"),)]), row([(("=", "s"),)], (1,))):
                self.assertEqual((followers(program, growing, told), spoiled(program, growing, told)), ([], []))

    def test_new_and_copies(self):
        for statement in (("new", "s"), ("copy", "s", "a"), ("copycut", "s", "a"), ("copy", "s", "s")):
            program = looking(statement, "as")
            for growing in ("exact", "spare"):
                for shape in ([(("a",), ("b", "s"), ("=",))], [(("=", "a"),), (("s",),)]):
                    told = [lacking(order, ["b"]) for order in shape]
                    want = [lacking(order, ["s"]) for order in told] + [(("=", "s"),)]
                    self.assertEqual(shapes(program, growing, row(shape_of(told))), [shape_of(want)])
                    self.assertEqual(spoiled(program, growing, row(shape_of(told))), [])

    def test_copyput_and_a_put_at_the_room(self):
        for word in ("copyput", "put"):
            program = looking((word, "s", "a"), "as")
            told = row([(("s",), ("=", "a"))])
            self.assertEqual(shapes(program, "exact", told), [((("=", "a"),), (("=", "s"),))])
            self.assertEqual(shapes(program, "spare", told), [((("=", "a"),), (("s",),))])

    def test_take(self):
        program = looking(("take", "s", "a"), "as")
        self.assertEqual(shapes(program, "spare", row([(("a",), ("s",))])), [((("a", "s"),),)])
        self.assertEqual(shapes(program, "spare", row([(("=", "s"),), (("a",), ("=",))])), [((("a", "s"), ("=",)),)])
        self.assertEqual(shapes(looking(("take", "s", "s"), "s"), "spare", row([(("s",),)])), [((("s",),),)])

    def test_cut(self):
        program = looking(("cut", "s", "a"), "abs")
        self.assertEqual(shapes(program, "exact", row([(("b",), ("a", "s"), ("=",))])), [
            ((("b",), ("a", "s"), ("=",)),), ((("b",), ("s",), ("a",), ("=",)),), ((("b", "s"), ("a",), ("=",)),),
            ((("s",), ("b",), ("a",), ("=",)),)])

    def test_cut_of_a_name_itself(self):
        program = looking(("cut", "s", "s"), "as")
        self.assertEqual(shapes(program, "exact", row([(("a",), ("=", "s"))])), [
            ((("a",), ("=", "s")),), ((("a",), ("s",), ("=",)),), ((("a", "s"), ("=",)),), ((("s",), ("a",), ("=",)),)])

    def test_a_put_that_can_stay(self):
        program = looking(("put", "s", "a"), "as")
        self.assertEqual(shapes(program, "exact", row([(("a",), ("=", "s"))])), [
            ((("=", "s"),), (("a",), ("=",))), ((("a",), ("=", "s")),), ((("a",), ("s",), ("=",)),)])
        self.assertEqual(shapes(program, "spare", row([(("a",), ("s",))])), [((("a",),), (("s",),)), ((("a",), ("s",)),)])

    def test_a_put_spoils_what_is_higher(self):
        program = looking(("put", "s", "a"), "abs")
        for order, victims in (((("a",), ("b",), ("s",)), ["b"]), ((("a", "b"), ("s",)), []), ((("b",), ("a",)), []),
                               ((("a",), ("!",), ("b",)), ["!", "b"]), ((("!", "a"), ("b", "s")), ["b"]),
                               ((("a",), ("!",)), ["!"]), ((("!",), ("a", "b", "s")), []), ((("b", "s"), ("=", "a")), []),
                               ((("a",), ("=", "b")), ["b"])):
            rest = [(("=", name),) for name in "bs" if level_of(order, name) is None]
            told = row(shape_of([order, *rest]))
            for growing in ("exact", "spare"):
                self.assertEqual(spoiled(program, growing, told), victims, order)
                # A put can always move, and stays as long as it spoils nothing.
                stays = [shape for shape in shapes(program, growing, told) if array_of(shape, "a") == array_of(shape, "s")]
                moves = [shape for shape in shapes(program, growing, told) if array_of(shape, "a") != array_of(shape, "s")]
                self.assertEqual(len(moves), 1)
                self.assertEqual(bool(stays), not victims and level_of(order, "=") != level_of(order, "a"))

    def test_names_that_are_not_watched_are_not_spoiled(self):
        program = main([("put", "s", "a"), ("set", "b"), ("look", "s")], "b")
        told = row([(("a",), ("b",))])
        self.assertEqual(spoiled(program, "spare", told), [])
        self.assertEqual(shapes(program, "spare", told), [
            ((("b",),), (("s",),)), ((("b",), ("s",)),), ((("b", "s"),),), ((("s",), ("b",)),)])

    def test_the_result_is_watched_or_not(self):
        program = main([], f=(["p", "q"], [("put", "p", "p")], "q"))
        for told, victims in ((False, []), (True, ["q"])):
            entry = (((("+0",), ("+1",)),), told)
            self.assertEqual(spoiled(program, "spare", ("f", entry, (0,), ((("+0", "p"), ("+1", "q")),))), victims)

    def test_what_is_watched_outside(self):
        program = main([], f=(["p"], [("put", "p", "p"), ("set", "p")], "p"))
        for order, victims in (((("^",), ("+0", "p")), []), ((("+0", "^", "p"),), []), ((("+0", "p"), ("^",)), ["^"]),
                               ((("+0", "p"), ("!",), ("^",)), ["!", "^"])):
            entry = ((only(order, ["+0", "^"]),), False)
            self.assertEqual(spoiled(program, "exact", ("f", entry, (0,), (order,))), victims)
            here = ("f", entry, (1,), (order,))
            told = [point for point in ("!", "^") if level_of(order, point) is not None]
            self.assertEqual(spoiled(program, "exact", here), told)
            self.assertEqual(followers(program, "exact", here), [("f", entry, (2,), (order,))] if level_of(order, "^") == 0
                             and len(order) == 2 and level_of(order, "p") == 1 else [])

    def test_set(self):
        program = looking(("set", "s"), "abs")
        for order, victims, stays in (
                ((("s",), ("a",)), ["a"], False), ((("a", "s"),), ["a"], False), ((("a",), ("s",)), ["a"], True),
                ((("!", "a"), ("b",), ("s",)), ["!", "a", "b"], True), ((("a",), ("!", "s")), ["!", "a"], False),
                ((("s",), ("=",)), [], True), ((("!",), ("s",), ("b",)), ["!", "b"], False)):
            rest = [(("=", name),) for name in "ab" if level_of(order, name) is None]
            told = row(shape_of([order, *rest]))
            for growing in ("exact", "spare"):
                self.assertEqual(spoiled(program, growing, told), victims)
                self.assertEqual(followers(program, growing, told), [row(told[3], (1,))] if stays else [])

    def test_a_set_beside_names_that_are_not_watched(self):
        program = main([("set", "s"), ("look", "s"), ("set", "b")])
        self.assertEqual(spoiled(program, "spare", row([(("s",), ("b",))])), [])
        self.assertEqual(followers(program, "spare", row([(("s",), ("b",))])), [row([(("s",), ("b",))], (1,))])

    def test_keep(self):
        program = looking(("keep", "s"), "as")
        for before, behind_it in (((("a",), ("s",)), (("a",), ("!", "s"))), ((("!", "a"), ("s",)), (("a",), ("!", "s"))),
                                  ((("!",), ("s",), ("a",)), (("!", "s"), ("a",))), ((("s",), ("!", "a")), (("s",), ("!", "a"))),
                                  ((("!", "s"), ("a",)), (("!", "s"), ("a",))), ((("s",), ("!",), ("a",)),) * 2):
            for growing in ("exact", "spare"):
                self.assertEqual(shapes(program, growing, row([before])), [(behind_it,)])
                self.assertEqual(spoiled(program, growing, row([before])), [])

    def test_a_keep_of_one_array_alone(self):
        program = looking(("keep", "s"), "as")
        told = row([(("!", "a"),), (("=", "s"),)])
        self.assertEqual(shapes(program, "exact", told), [((("!", "=", "s"),), (("!", "a"),))])

    def test_look(self):
        program = looking(("look", "s"), "as")
        told = row([(("s",), ("!", "a"))])
        self.assertEqual(followers(program, "exact", told), [row(told[3], (1,))])

    def test_names_that_are_not_alive_behind(self):
        program = main([("look", "a"), ("look", "s")])
        self.assertEqual(shapes(program, "spare", row([(("a",),), (("s",),)])), [((("s",),),)])
        self.assertEqual(shapes(program, "spare", row([(("a",), ("s",))])), [((("s",),),)])
        program = main([("put", "a", "s"), ("look", "s")])
        self.assertEqual(shapes(program, "exact", row([(("s",), ("!",))])), [((("s",), ("!",)),)])

    def test_loops_and_eithers(self):
        program = main([("loop", [("look", "a")]), ("either", [[("look", "b")], [], [("look", "s")]])])
        told = row([(("=", "a"),), (("=", "b"),), (("=", "s"),)])
        self.assertEqual(followers(program, "exact", told), [
            row(told[3], (0, 0, 0)), row([(("=", "b"),), (("=", "s"),)], (1,))])
        told = row([(("=", "b"),), (("=", "s"),)], (1,))
        self.assertEqual(followers(program, "exact", told), [
            row(told[3], (1, 0, 0)), row([(("=", "s"),)], (1, 2, 0)), row([(("=", "s"),)], (2,))])
        empty = main([("loop", []), ("either", [[], []])])
        self.assertEqual(followers(empty, "exact", row([(("=", "s"),)])), [row([(("=", "s"),)]), row([(("=", "s"),)], (1,))])
        self.assertEqual(followers(empty, "exact", row([(("=", "s"),)], (1,))), [row([(("=", "s"),)], (2,))])


class Calls(unittest.TestCase):
    def setUp(self):
        self.call = ("call", "s", "f", ("a", "b"))

    def called(self, orders, statement=None, names="abst", entry=MAIN):
        program = looking(statement or self.call, names, f=(["p", "q"], [], "p"))
        return called(program, row(shape_of(orders), entry=entry))

    def test_two_windows_of_two_orders(self):
        self.assertEqual(self.called([(("a",), ("=",)), (("b",),)]), (
            "f", (((("+0", "^"), ("=",)), (("+1", "^"),)), True)))

    def test_two_windows_of_one_order(self):
        self.assertEqual(self.called([(("b",), ("a",), ("=",))]), ("f", (((("+1",), ("+0", "^"), ("=",)),), True)))

    def test_one_window_twice(self):
        told = self.called([(("a",), ("=",))], ("call", "s", "f", ("a", "a")), "as")
        self.assertEqual(told, ("f", (((("+0", "+1", "^"), ("=",)),), True)))

    def test_nothing_watched_outside(self):
        program = main([("call", "s", "f", ("a", "s")), ("set", "a")], "a", f=(["p", "q"], [], "p"))
        self.assertEqual(called(program, row([(("a",), ("s",))])), ("f", (((("+0",), ("+1",)),), False)))

    def test_the_name_that_is_made_is_not_watched_outside(self):
        program = looking(("call", "s", "f", ("a", "s")), "s", f=(["p", "q"], [], "p"))
        self.assertEqual(called(program, row([(("a",), ("s",))])), ("f", (((("+0",), ("+1",)),), True)))

    def test_higher_names_marks_of_the_store_and_of_outside(self):
        call = ("call", "s", "f", ("a", "a"))
        for order, want in (((("a",), ("b",)), (("+0", "+1"), ("^",))), ((("b",), ("a",)), (("+0", "+1", "^"),)),
                            ((("b",), ("a",), ("!",)), (("+0", "+1"), ("^",))), ((("a",), ("!",), ("b", "=")), (("+0", "+1"), ("=", "^")))):
            order = tuple(tuple(sorted(level)) for level in order)
            self.assertEqual(self.called([order], call, "abs")[1], ((want,), True))
        program = main([], g=(["a"], [("call", "s", "f", ("a",)), ("set", "a")], "s"), f=(["p"], [], "p"))
        for order, want in (((("+0", "a"), ("^",)), (("+0",), ("^",))), ((("^",), ("+0", "a")), (("^",), ("+0",))),
                            ((("^",), ("!", "+0", "a")), (("+0", "^"),)), ((("^",), ("!",), ("+0", "a")), (("^",), ("+0",))),
                            ((("+0",), ("a",)), (("+0",),))):
            entry = ((only(order, ["+0", "^"]),), False)
            self.assertEqual(called(program, ("g", entry, (0,), (order,))), ("f", ((want,), False)))

    def test_orders_without_passed_windows(self):
        told = self.called([(("=", "t"),), (("a",),), (("b",),)])
        self.assertEqual(told[1][0], ((("+0", "^"),), (("+1", "^"),)))

    def test_no_parameters(self):
        program = looking(("call", "s", "f", ()), "as", f=([], [], "p"))
        self.assertEqual(called(program, row([(("=", "a"),)])), ("f", ((), True)))
        program = looking(("call", "s", "f", ()), "a", f=([], [], "p"))
        self.assertEqual(called(program, row([(("=", "a"),)])), ("f", ((), False)))

    def test_the_result_is_watched_if_the_callers_is(self):
        program = main([], f=(["p"], [("either", [[("call", "p", "f", ("p",))], []])], "p"))
        for told in (False, True):
            entry = (((("+0",),),), told)
            self.assertEqual(called(program, ("f", entry, (0, 0, 0), ((("+0", "p"),),))), ("f", entry))


class Behind(unittest.TestCase):
    def behind(self, statement, orders, end, names="abs", result="r"):
        """The shapes behind a call, by those of a row and of an end row."""
        program = looking(statement, names, f=(["p", "q"][:len(statement[3])], [], result))
        told = row(shape_of(orders))
        function, entry = called(program, told)
        found = behind(program, told, (function, entry, (0,), shape_of(end)))
        self.assertTrue(all(one[:3] == ("main", MAIN, (1,)) for one in found))
        return [one[3] for one in found]

    def test_a_result_on_a_new_array(self):
        told = self.behind(("call", "s", "f", ("a",)), [(("a",), ("b",))], [(("+0",), ("^",)), (("=", "r"),)])
        self.assertEqual(told, [((("=", "s"),), (("a",), ("b",)))])
        told = self.behind(("call", "s", "f", ("a",)), [(("a",), ("b",))], [(("+0",), ("^",)), (("!",), ("r",))])
        self.assertEqual(told, [((("!",), ("s",)), (("a",), ("b",)))])

    def test_a_result_on_a_passed_array(self):
        told = self.behind(("call", "s", "f", ("a",)), [(("a",), ("b",))], [(("+0",), ("r",), ("^",))])
        self.assertEqual(told, [((("a",), ("s",), ("b",)),)])
        told = self.behind(("call", "s", "f", ("a",)), [(("a",), ("=",)), (("=", "b"),)], [(("+0", "^"), ("r",), ("=",))])
        self.assertEqual(told, [((("=", "b"),), (("a",), ("s",), ("=",)))])

    def test_all_orders_are_laid_over(self):
        told = self.behind(("call", "s", "f", ("a",)), [(("b",), ("a",))], [(("r",), ("+0", "^"))])
        self.assertEqual(told, [((("b",), ("s",), ("a",)),), ((("b", "s"), ("a",)),), ((("s",), ("b",), ("a",)),)])
        told = self.behind(("call", "s", "f", ("a",)), [(("a",), ("=",)), (("b",),)], [(("+0", "^"), ("=", "r"))])
        self.assertEqual(told, [((("a",), ("=", "s")), (("b",),))])

    def test_the_elder_window_of_the_made_name(self):
        told = self.behind(("call", "s", "f", ("a",)), [(("a",), ("s",), ("b",))], [(("+0", "r"), ("^",))])
        self.assertEqual(told, [((("a", "s"), ("b",)),)])
        told = self.behind(("call", "s", "f", ("s",)), [(("s",), ("b",))], [(("+0",), ("^",)), (("=", "r"),)], "bs")
        self.assertEqual(told, [((("=", "s"),), (("b",),))])
        told = self.behind(("call", "s", "f", ("s",)), [(("s",), ("b",))], [(("+0", "r"), ("^",))], "bs")
        self.assertEqual(told, [((("s",), ("b",)),)])

    def test_the_higher_mark_of_the_store(self):
        told = self.behind(("call", "s", "f", ("a",)), [(("!",), ("a",))], [(("+0", "^"), ("=", "r"))], "as")
        self.assertEqual(told, [((("!",), ("a",), ("=", "s")),)])
        told = self.behind(("call", "s", "f", ("a",)), [(("!",), ("a",))], [(("!", "+0", "^", "r"),)], "as")
        self.assertEqual(told, [((("!", "a", "s"),),)])
        told = self.behind(("call", "s", "f", ("a",)), [(("a",), ("!",))], [(("!", "+0", "r"), ("^",))], "as")
        self.assertEqual(told, [((("a", "s"), ("!",)),)])
        told = self.behind(("call", "s", "f", ("a",)), [(("!",), ("a",))], [(("!", "r"), ("+0", "^"))], "as")
        self.assertEqual(told, [((("!", "s"), ("a",)),), ((("s",), ("!",), ("a",)),)])

    def test_a_result_that_is_not_alive(self):
        told = self.behind(("call", "t", "f", ("a",)), [(("a",), ("b",))], [(("+0",), ("r",), ("^",))], "ab")
        self.assertEqual(told, [((("a",), ("b",)),)])

    def test_two_arrays(self):
        told = self.behind(("call", "s", "f", ("a", "b")), [(("a",),), (("b",), ("=",))],
                           [(("+0", "^"), ("r",)), (("!", "+1", "^"), ("=",))])
        self.assertEqual(told, [((("!", "b"), ("=",)), (("a",), ("s",)))])

    def test_one_window_twice(self):
        told = self.behind(("call", "s", "f", ("a", "a")), [(("a",), ("=",))], [(("+0", "+1", "^"), ("r",), ("=",))], "as")
        self.assertEqual(told, [((("a",), ("s",), ("=",)),)])

    def test_points_of_the_caller_stay(self):
        program = main([], g=(["p", "q"], [("call", "s", "f", ("p",)), ("look", "p")], "s"), f=(["p"], [], "p"))
        entry = (((("+0",), ("^",)), (("+1", "="),)), False)
        told = ("g", entry, (0,), ((("!",), ("+0",), ("p",), ("^",)), (("+1", "="),)))
        function, inner = called(program, told)
        self.assertEqual(inner, (((("+0",), ("^",)),), False))
        found = behind(program, told, (function, inner, (0,), ((("+0", "p"), ("^",)),)))
        self.assertEqual(found, [("g", entry, (1,), ((("!",), ("+0",), ("p", "s"), ("^",)), (("+1", "="),)))])


def behind_by_hand(program, told, end):
    """The rows behind a call, by lengths of all points: those of the end row that are not tied are tried one by one."""
    function, entry, address, shape = told
    _, v, _, names = statement_at(program, (function, address))
    result = program.result(end[0])
    place = after(program, (function, address))
    later = [name for name in watched(program, place, entry[1]) if name != v] + ["^", "!"]
    choices, free = [], [order for order in end[3] if not only(order, ["+0", "+1"])]
    for order in shape:
        lengths = {point: GAP * (k + 1) for k, level in enumerate(order) for point in level}
        tied = {point: lengths[name] for point, name in zip(("+0", "+1"), names) if name in lengths}
        if not tied:
            choices.append([{point: length for point, length in lengths.items() if point != v}])
            continue
        inner = end[3][array_of(end[3], sorted(tied)[0])]
        if "=" in lengths:
            tied["="] = lengths["="]
        seen = [length for point, length in lengths.items() if point in later]
        if seen:
            tied["^"] = max(seen)
        others = [point for point in points_of(inner) if point not in tied]
        found = []
        for tried in itertools.product(range(1, max(lengths.values()) + 2 * GAP), repeat=len(others)):
            more = dict(zip(others, tried))
            if order_of({**tied, **more}) == inner:
                here = {point: length for point, length in lengths.items() if point != v}
                if result in more:
                    here[v] = more[result]
                if "!" in more:
                    here["!"] = max(more["!"], here.get("!", 0))
                found.append(here)
        choices.append(found)
    for order in free:
        choices.append([{v if point == result else point: k for k, level in enumerate(order) for point in level}])
    alive_then = alive(program, place)
    rows = set()
    for arrays in itertools.product(*choices):
        told_orders = []
        for array in arrays:
            kept = {point: length for point, length in array.items() if point in alive_then or point in ("+0", "+1", "=", "^", "!")}
            if set(kept) & {*alive_then, "+0", "+1"}:
                told_orders.append(order_of(kept))
        rows.add((function, entry, place[1], tuple(sorted(told_orders))))
    return sorted(rows)


class Entries(unittest.TestCase):
    def test_none(self):
        self.assertEqual(all_entries(0), [((), False), ((), True)])

    def test_one(self):
        told = all_entries(1)
        self.assertEqual(len(told), 24)
        orders = [(("+0",),), (("+0",), ("^",)), (("+0", "^"),), (("^",), ("+0",))]
        more = [order + (("=",),) for order in orders]
        more += [order[:-1] + (tuple(sorted(order[-1] + ("=",))),) for order in orders]
        self.assertEqual(told, sorted(((order,), watch) for order in orders + more for watch in (False, True)))

    def test_two(self):
        told = all_entries(2)
        self.assertEqual(len(told), 2 * (12 * 12 + 16 * 3))
        self.assertEqual(told, sorted(set(told)))
        for shape, watch in told:
            self.assertIs(is_shape(shape), True)
            self.assertIn(watch, (False, True))
            self.assertEqual([point for point in sorted(sum((points_of(order) for order in shape), [])) if point[0] == "+"], ["+0", "+1"])
            for order in shape:
                self.assertTrue(only(order, ["+0", "+1"]))
                self.assertIn(level_of(order, "="), (None, len(order) - 1))
                self.assertEqual(lacking(order, ["+0", "+1", "=", "^"]), ())

    def test_the_list_is_the_callers(self):
        for many in range(3):
            told = all_entries(many)
            want = list(told)
            told.clear()
            self.assertEqual(all_entries(many), want)


class Drawn(unittest.TestCase):
    def setUp(self):
        source = random.Random(70)
        self.rows = []
        while len(self.rows) < 1500:
            program = dense_program(source, source.choice([("r", "s"), ("p", "q", "r")]))
            for growing in ("exact", "spare"):
                try:
                    table = Table(program, growing, most=400)
                except TooMany:
                    continue
                rows = source.sample(table.rows(), min(len(table), 30))
                # Rows need not be such that a call comes to stand there: marks of the store stand anywhere.
                rows += [told for one in rows[:8] for told in self.stored(source, one)]
                self.rows += [(program, growing, one, table) for one in rows]

    def stored(self, source, told):
        return [(*told[:3], self.with_stored(source, [lacking(order, ["!"]) for order in told[3]]))]

    def test_by_lengths(self):
        spoils = 0
        for program, growing, told, _ in self.rows:
            statement = statement_at(program, (told[0], told[2]))
            if statement is None or statement[0] == "call":
                self.assertEqual((followers(program, growing, told), spoiled(program, growing, told)), ([], []))
                continue
            rows, victims = Lengths(program, growing, told).found()
            self.assertEqual(followers(program, growing, told), rows, (program.functions(), growing, told))
            self.assertEqual(spoiled(program, growing, told), victims)
            spoils += len(victims)
        self.assertGreater(spoils, 30)

    def drawn_end(self, source, program, function, entry):
        """An end row with an entry, such that the result and marks of the store stand anywhere."""
        orders = list(entry[0])
        result = program.result(function)
        if orders and source.random() < 0.8:
            at = source.randrange(len(orders))
            orders[at] = self.somewhere(source, orders[at], result)
        else:
            orders.append(source.choice([(("=", result),), ((result,),), (("!",), (result,), ("=",))]))
        for at, order in enumerate(orders):
            if level_of(order, "!") is None and source.random() < 0.3:
                orders[at] = self.somewhere(source, order, "!")
        return (function, entry, program_end(program, function), tuple(sorted(orders)))

    def somewhere(self, source, order, point):
        highest = 2 * len(order) - 1 if level_of(order, "=") is not None else 2 * len(order)
        return placed(order, point, source.randint(0, highest))

    def somewhere(self, source, order, point):
        highest = 2 * len(order) - 1 if level_of(order, "=") is not None else 2 * len(order)
        return placed(order, point, source.randint(0, highest))

    def drawn_row(self, source, program, function, entry, address):
        """A row in which all names that are alive stand anywhere."""
        orders = list(entry[0])
        for name in alive(program, (function, address)):
            if orders and source.random() < 0.7:
                at = source.randrange(len(orders))
                orders[at] = self.somewhere(source, orders[at], name)
            else:
                orders.append(source.choice([(("=", name),), ((name,),), ((name,), ("=",))]))
        return (function, entry, address, self.with_stored(source, orders))

    def with_stored(self, source, orders):
        return shape_of([
            self.somewhere(source, order, "!") if level_of(order, "!") is None and source.random() < 0.3 else order
            for order in orders])

    def test_calls_by_lengths(self):
        source = random.Random(701)
        several = 0
        for _ in range(300):
            names = tuple(source.choice("abs") for _ in range(source.randint(0, 2)))
            call = [("call", source.choice("abst"), "f", names)] + [("look", name) for name in "ab" if source.random() < 0.6]
            result = source.choice("pqr")
            program = main(call, f=(["p", "q"][:len(names)], [], result), g=(["a"], call, "s"))
            caller = source.choice(["main", "g"])
            told = self.drawn_row(source, program, caller, MAIN if caller == "main" else source.choice(all_entries(1)), (0,))
            function, entry = called(program, told)
            self.assertIn(entry, all_entries(len(names)))
            for _ in range(4):
                end = self.drawn_row(source, program, "f", entry, (0,))
                rows = behind(program, told, end)
                self.assertEqual(rows, behind_by_hand(program, told, end), (program.functions(), told, end))
                several += len(rows) > 1
        self.assertGreater(several, 30)

    def test_calls_of_tables_by_lengths(self):
        pairs = 0
        for program, growing, told, table in self.rows:
            statement = statement_at(program, (told[0], told[2]))
            if statement is not None and statement[0] == "call":
                function, entry = called(program, told)
                for end in table.ends(function, entry)[:3]:
                    self.assertEqual(behind(program, told, end), behind_by_hand(program, told, end))
                    pairs += 1
        self.assertGreater(pairs, 100)

    def test_rows_of_any_form_by_lengths(self):
        source = random.Random(702)
        spoils = 0
        for _ in range(800):
            word = source.choice(["put"] * 4 + ["cut", "take", "set", "keep", "copyput", "copycut"])
            names = [source.choice("as") for _ in range(1 if word in ("set", "keep") else 2)]
            body = [(word, *names)] + [("look", name) for name in "ab" if source.random() < 0.7]
            program = main(body, g=(["a", "b"], body, "s"))
            caller, growing = source.choice(["main", "g"]), source.choice(["exact", "spare"])
            told = self.drawn_row(source, program, caller, MAIN if caller == "main" else source.choice(all_entries(2)), (0,))
            rows, victims = Lengths(program, growing, told).found()
            self.assertEqual(followers(program, growing, told), rows, (program.functions(), growing, told))
            self.assertEqual(spoiled(program, growing, told), victims)
            spoils += len(victims)
        self.assertGreater(spoils, 150)

    def test_lists_are_the_callers(self):
        for program, growing, told, table in self.rows[:200]:
            for asked in (followers, spoiled):
                self.returns_new(lambda: asked(program, growing, told))
            statement = statement_at(program, (told[0], told[2]))
            if statement is not None and statement[0] == "call":
                for end in table.ends(*called(program, told))[:2]:
                    self.returns_new(lambda: behind(program, told, end))

    def returns_new(self, ask):
        first = ask()
        want = list(first)
        self.assertEqual(first, sorted(set(first)))
        first.append("spoiled")
        self.assertEqual(ask(), want)


if __name__ == "__main__":
    unittest.main()
