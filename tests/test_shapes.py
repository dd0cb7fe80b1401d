"""Shapes [61]."""
import itertools
import random
import unittest

from sparetails.orders import compare, is_order, lacking, points_of
from sparetails.shapes import array_of, is_shape, kept_points, shape_of, share, stands
from tests.drawing import STRANGE, drawn_order

ONE = (("=", "y"), ("a",))
OTHER = (("x",), ("!", "+0", "z"), ("=", "^"))
SHAPE = (ONE, OTHER)


class ShapeOf(unittest.TestCase):
    def test_ascending_without_empty_ones(self):
        self.assertEqual(shape_of([]), ())
        self.assertEqual(shape_of([()]), ())
        self.assertEqual(shape_of([OTHER, (), ONE, ()]), SHAPE)
        self.assertEqual(shape_of([ONE, OTHER]), SHAPE)

    def test_equal_ones_stay(self):
        room = (("=",),)
        self.assertEqual(shape_of([room, OTHER, room]), (room, room, OTHER))

    def test_the_list_stays(self):
        orders = [OTHER, (), ONE]
        shape_of(orders)
        self.assertEqual(orders, [OTHER, (), ONE])


class IsShape(unittest.TestCase):
    def test_shapes(self):
        for shape in ((), SHAPE, (ONE,), ((("=",),), (("=",),)), ((("!",),), (("!", "="),)), ((("^",),), (("^",),))):
            self.assertIs(is_shape(shape), True)

    def test_a_point_in_two_orders(self):
        for point in ("a", "+0", "+1", "*", "main"):
            self.assertIs(is_shape(((("!",), (point,)), (("=", point),))), False)
            self.assertIs(is_shape((((point,),), ((point,),))), False)
        for point in ("=", "^", "!"):
            self.assertIs(is_shape(((("a",), (point,)), (("b",), (point,)))), True)

    def test_not_ascending(self):
        self.assertIs(is_shape((OTHER, ONE)), False)
        self.assertIs(is_shape(((("b",),), (("a",),))), False)

    def test_other_forms(self):
        for thing in (((),), (ONE, ()), ((), ONE), [ONE, OTHER], (list(ONE), OTHER), ONE, "ab", ("a",), (("a",),),
                      ((("b", "a"),),), ((("a",), ("a",)),), (((),),), ((("123456789",),),), (ONE, None)):
            self.assertIs(is_shape(thing), False)

    def test_any_value(self):
        for thing in STRANGE:
            self.assertIs(is_shape(thing), thing == ())
            self.assertIs(is_shape((thing,)), False)
            self.assertIs(is_shape(SHAPE + (thing,)), False)


class Queries(unittest.TestCase):
    def test_array_of(self):
        told = {point: array_of(SHAPE, point) for point in ("y", "a", "x", "z", "+0", "=", "^", "!", "b", "+1")}
        self.assertEqual(told, {"y": 0, "a": 0, "x": 1, "z": 1, "+0": 1, "=": 0, "^": 1, "!": 1, "b": None, "+1": None})
        self.assertIsNone(array_of((), "a"))

    def test_share(self):
        for one, other, want in (("y", "a", True), ("a", "y", True), ("x", "z", True), ("a", "a", True), ("a", "x", False),
                                 ("z", "y", False), ("a", "none", False), ("none", "a", False), ("none", "none", False)):
            self.assertIs(share(SHAPE, one, other), want)
        self.assertIs(share((), "a", "a"), False)

    def test_stands(self):
        for one, other, want in (("y", "a", -1), ("a", "y", 1), ("z", "z", 0), ("x", "z", -1), ("z", "x", 1),
                                 ("a", "x", None), ("a", "none", None), ("none", "none", None)):
            self.assertEqual(stands(SHAPE, one, other), want)
        self.assertEqual(repr(stands(((("a", "b"),),), "a", "b")), "0")

    def test_drawn(self):
        source = random.Random(61)
        for _ in range(100):
            shape = shape_of([drawn_order(source, points) for points in ("ab", "cd", "e")])
            for one, other in itertools.product("abcdef", repeat=2):
                inside = [order for order in shape if one in points_of(order) and other in points_of(order)]
                self.assertIs(share(shape, one, other), len(inside) == 1)
                self.assertEqual(stands(shape, one, other), compare(inside[0], one, other) if inside else None)


class KeptPoints(unittest.TestCase):
    def test_names_that_are_left(self):
        self.assertEqual(kept_points(SHAPE, ["x", "a"]), ((("=",), ("a",)), (("x",), ("!", "+0"), ("=", "^"))))
        self.assertEqual(kept_points(SHAPE, ["x", "y", "z", "a"]), SHAPE)
        self.assertEqual(kept_points(SHAPE, ["x", "y", "z", "a", "none"]), SHAPE)

    def test_orders_without_a_name(self):
        self.assertEqual(kept_points(SHAPE, ["x"]), ((("x",), ("!", "+0"), ("=", "^")),))
        self.assertEqual(kept_points((ONE, (("!",), ("b",))), ["y"]), ((("=", "y"),),))
        self.assertEqual(kept_points((ONE, (("!",), ("b",))), []), ())

    def test_orders_with_what_was_passed(self):
        self.assertEqual(kept_points(SHAPE, []), ((("!", "+0"), ("=", "^")),))
        self.assertEqual(kept_points(((("a",), ("+1",)),), []), ((("+1",),),))
        self.assertEqual(kept_points(((("!", "="),), (("^",),)), ["a"]), ())

    def test_the_shape_is_ascending_again(self):
        shape = ((("a",), ("c",)), (("b",), ("a0",)))
        self.assertEqual(kept_points(shape, ["c", "b"]), ((("b",),), (("c",),)))

    def test_other_points_are_left_out(self):
        self.assertEqual(kept_points(((("*", "a"), ("*0",)),), ["a"]), ((("a",),),))

    def test_drawn(self):
        source = random.Random(611)
        for _ in range(200):
            shape = shape_of([drawn_order(source, points) for points in (["a", "b", "=", "^"], ["c", "+0", "!"], ["d", "!", "="])])
            self.assertIs(is_shape(shape), True)
            names = source.sample("abcde", source.randint(0, 4))
            out = [name for name in "abcd" if name not in names]
            told = [lacking(order, out) for order in shape]
            want = sorted(order for order in told if set(points_of(order)) & {*names, "+0"})
            self.assertEqual(kept_points(shape, names), tuple(want))
            self.assertIs(is_shape(kept_points(shape, names)), True)
            self.assertTrue(all(is_order(order) for order in kept_points(shape, names)))


if __name__ == "__main__":
    unittest.main()
