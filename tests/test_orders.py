"""Orders [60]."""
import itertools
import random
import time
import unittest

from sparetails.orders import compare, is_order, lacking, laid_over, level_of, only, placed, points_of, renamed
from tests.drawing import STRANGE, drawn_order, orders_of

ORDER = (("b",), ("!", "a"), ("+0", "="), ("^",))


class IsOrder(unittest.TestCase):
    def test_orders(self):
        for order in ((), (("a",),), ORDER, (("a", "b"),), (("b",), ("a",)), (("abcdefgh",),), (("A b.", "z"),)):
            self.assertIs(is_order(order), True)

    def test_signs(self):
        for point, want in (("a", True), ("12345678", True), ("123456789", False), ("", False), (" ", True), ("\n", True),
                            (b"a", False), (1, False), (None, False), (("a",), False), (True, False)):
            self.assertIs(is_order(((point,),)), want)
            self.assertIs(is_order((("c",), (point,))), want)

    def test_points_once(self):
        for order in ((("a",), ("a",)), (("a", "a"),), (("a", "b"), ("c",), ("b",))):
            self.assertIs(is_order(order), False)

    def test_levels(self):
        for order in (((),), (("a",), ()), (("b", "a"),), ((("a",),),), ("a",), ("ab",), (["a"],), [("a",)], [["a"]], {"a": 1}):
            self.assertIs(is_order(order), False)

    def test_any_value(self):
        for thing in STRANGE:
            self.assertIs(is_order(thing), thing == ())
            self.assertIs(is_order((("A",), thing)), thing in (("s",), ("loop",), ("look", "s"), ("new", "s")))
            self.assertIs(is_order((thing,)), thing in (("s",), ("loop",), ("look", "s"), ("new", "s")))
            self.assertIs(is_order(((thing,),)), isinstance(thing, str) and 0 < len(thing) < 9)


class Queries(unittest.TestCase):
    def test_points(self):
        self.assertEqual(points_of(()), [])
        self.assertEqual(points_of(ORDER), ["!", "+0", "=", "^", "a", "b"])
        points = points_of(ORDER)
        points.clear()
        self.assertEqual(len(points_of(ORDER)), 6)

    def test_levels(self):
        told = {point: level_of(ORDER, point) for point in ("b", "!", "a", "+0", "=", "^", "c", "+1")}
        self.assertEqual(told, {"b": 0, "!": 1, "a": 1, "+0": 2, "=": 2, "^": 3, "c": None, "+1": None})
        self.assertIsNone(level_of((), "a"))

    def test_compare(self):
        self.assertEqual([compare(ORDER, "b", "a"), compare(ORDER, "a", "b"), compare(ORDER, "a", "!")], [-1, 1, 0])
        self.assertEqual([compare(ORDER, "a", "a"), compare(ORDER, "b", "^"), compare(ORDER, "^", "b")], [0, -1, 1])
        for one, other in (("a", "c"), ("c", "a"), ("c", "c"), ("c", "d")):
            self.assertIsNone(compare(ORDER, one, other))
        self.assertIsNone(compare((), "a", "a"))

    def test_compare_gives_integers(self):
        self.assertEqual([repr(compare(ORDER, one, other)) for one, other in (("b", "a"), ("a", "!"), ("a", "b"))],
                         ["-1", "0", "1"])


class Parts(unittest.TestCase):
    def test_only(self):
        self.assertEqual(only(ORDER, ["a", "^", "c"]), (("a",), ("^",)))
        self.assertEqual(only(ORDER, ["a", "!"]), (("!", "a"),))
        self.assertEqual(only(ORDER, []), ())
        self.assertEqual(only((), ["a"]), ())
        self.assertEqual(only(ORDER, points_of(ORDER)), ORDER)

    def test_lacking(self):
        self.assertEqual(lacking(ORDER, ["a", "^", "c"]), (("b",), ("!",), ("+0", "=")))
        self.assertEqual(lacking(ORDER, []), ORDER)
        self.assertEqual(lacking(ORDER, points_of(ORDER)), ())
        self.assertEqual(lacking((), ["a"]), ())

    def test_points_of_several_signs_are_wholes(self):
        order = (("ab",), ("a", "b"))
        self.assertEqual((only(order, ["ab"]), lacking(order, ["ab"])), ((("ab",),), (("a", "b"),)))
        self.assertEqual((level_of(order, "b"), only(order, ["a"])), (1, (("a",),)))

    def test_one_is_what_the_other_lacks(self):
        source = random.Random(60)
        for _ in range(200):
            order = drawn_order(source, "abcdef")
            points = source.sample("abcdefg", source.randint(0, 7))
            others = [point for point in points_of(order) if point not in points]
            self.assertEqual(only(order, points), lacking(order, others))
            self.assertIs(is_order(only(order, points)), True)
            self.assertEqual(points_of(only(order, points)), sorted(set(points) & set(points_of(order))))
            for one, other in itertools.product(points_of(only(order, points)), repeat=2):
                self.assertEqual(compare(only(order, points), one, other), compare(order, one, other))


class Renamed(unittest.TestCase):
    def test_some(self):
        self.assertEqual(renamed(ORDER, {"a": "z", "+0": "x", "none": "b"}), (("b",), ("!", "z"), ("=", "x"), ("^",)))
        self.assertEqual(renamed(ORDER, {}), ORDER)
        self.assertEqual(renamed((), {"a": "b"}), ())

    def test_levels_stay_ascending(self):
        self.assertEqual(renamed((("a", "b", "c"),), {"a": "d"}), (("b", "c", "d"),))

    def test_names_that_are_exchanged(self):
        self.assertEqual(renamed((("a",), ("b",)), {"a": "b", "b": "a"}), (("b",), ("a",)))

    def test_names_in_a_round(self):
        self.assertEqual(renamed((("a",), ("b",), ("c",)), {"a": "b", "b": "c", "c": "a"}), (("b",), ("c",), ("a",)))

    def test_names_that_fall_together(self):
        self.assertEqual(renamed((("a", "b", "c"), ("d",)), {"a": "b"}), (("b", "c"), ("d",)))
        self.assertEqual(renamed((("a", "b", "c"),), {"a": "x", "b": "x", "c": "x"}), (("x",),))

    def test_the_dict_stays(self):
        names = {"a": "b", "b": "a"}
        renamed(ORDER, names)
        self.assertEqual(names, {"a": "b", "b": "a"})


class Placed(unittest.TestCase):
    def test_each_place(self):
        order = (("a", "c"), ("d",))
        self.assertEqual([placed(order, "b", place) for place in range(5)], [
            (("b",), ("a", "c"), ("d",)), (("a", "b", "c"), ("d",)), (("a", "c"), ("b",), ("d",)),
            (("a", "c"), ("b", "d")), (("a", "c"), ("d",), ("b",))])

    def test_in_nothing(self):
        self.assertEqual(placed((), "b", 0), (("b",),))

    def test_drawn(self):
        source = random.Random(601)
        for _ in range(100):
            order = drawn_order(source, "bcd")
            for place in range(2 * len(order) + 1):
                told = placed(order, "a", place)
                self.assertIs(is_order(told), True)
                self.assertEqual(lacking(told, ["a"]), order)
                self.assertEqual(level_of(told, "a"), place // 2)
                self.assertEqual(len(told), len(order) + (place % 2 == 0))


def laid_by_hand(one, other):
    """All orders of the points of both, of which those stay in which each stands as it does."""
    points = sorted(set(points_of(one)) | set(points_of(other)))
    return sorted(order for order in orders_of(points)
                  if only(order, points_of(one)) == one and only(order, points_of(other)) == other)


class LaidOver(unittest.TestCase):
    def test_nothing(self):
        self.assertEqual(laid_over((), ()), [()])
        self.assertEqual(laid_over(ORDER, ()), [ORDER])
        self.assertEqual(laid_over((), ORDER), [ORDER])

    def test_equal_ones(self):
        self.assertEqual(laid_over(ORDER, ORDER), [ORDER])

    def test_without_common_points(self):
        self.assertEqual(laid_over((("a",),), (("b",),)), [(("a",), ("b",)), (("a", "b"),), (("b",), ("a",))])
        self.assertEqual(len(laid_over((("a",), ("b",)), (("c",), ("d",)))), 13)

    def test_common_points_that_stand_otherwise(self):
        self.assertEqual(laid_over((("a",), ("b",)), (("b",), ("a",))), [])
        self.assertEqual(laid_over((("a", "b"),), (("b",), ("a",))), [])
        self.assertEqual(laid_over((("b",), ("a",)), (("a", "b"), ("c",))), [])
        self.assertEqual(laid_over((("a",), ("b",), ("c",)), (("a",), ("c",), ("b",))), [])

    def test_common_points_that_stand_alike(self):
        self.assertEqual(laid_over((("a",), ("b",)), (("a", "c"), ("b",))), [(("a", "c"), ("b",))])
        self.assertEqual(laid_over((("a", "d"), ("b",)), (("a", "c"), ("b",))), [(("a", "c", "d"), ("b",))])
        self.assertEqual(laid_over((("a",), ("x",), ("b",)), (("a",), ("y",), ("b",))), [
            (("a",), ("x",), ("y",), ("b",)), (("a",), ("x", "y"), ("b",)), (("a",), ("y",), ("x",), ("b",))])

    def test_up_to_three_points_each(self):
        ones = [order for many in range(4) for order in orders_of("abc"[:many])]
        others = [order for points in itertools.chain(*[itertools.combinations("bcde", many) for many in range(4)])
                  for order in orders_of(points)]
        for one in ones:
            for other in others:
                told = laid_over(one, other)
                self.assertEqual(told, laid_by_hand(one, other))
                self.assertEqual(told, laid_over(other, one))

    def test_four_points_each(self):
        source = random.Random(602)
        for _ in range(60):
            one = drawn_order(source, source.sample("abcdef", 4))
            other = drawn_order(source, source.sample("abcdef", 4))
            self.assertEqual(laid_over(one, other), laid_by_hand(one, other))
            self.assertEqual(laid_over(other, one), laid_over(one, other))

    def test_seven_points_each(self):
        source = random.Random(603)
        found = 0
        for _ in range(60):
            # What is drawn for all, and looked at for some, agrees.
            whole = drawn_order(source, "abcdefghij")
            one, other = only(whole, list("abcdefg")), only(whole, list("defghij"))
            told = laid_over(one, other)
            self.assertIn(whole, told)
            self.assertEqual(told, sorted(set(told)))
            self.assertEqual(told, laid_over(other, one))
            for order in told[:20]:
                self.assertIs(is_order(order), True)
                self.assertEqual((only(order, list("abcdefg")), only(order, list("defghij"))), (one, other))
            found += len(told)
        self.assertGreater(found, 200)

    def test_seven_points_each_without_common_ones(self):
        begun = time.time()
        one, other = tuple((point,) for point in "abcdefg"), tuple((point,) for point in "ABCDEFG")
        # As many as there are ways of steps right, up and both from one corner of a square of seven to the other one.
        self.assertEqual(len(laid_over(one, other)), 48639)
        self.assertLess(time.time() - begun, 10)

    def test_the_list_is_the_callers(self):
        told = laid_over(ORDER, (("b",), ("z",)))
        want = list(told)
        told.clear()
        self.assertEqual(laid_over(ORDER, (("b",), ("z",))), want)


if __name__ == "__main__":
    unittest.main()
