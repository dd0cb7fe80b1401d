"""The examples of the document: each stage by itself, and all together, as one session."""
import builtins
import doctest
import pathlib
import unittest

from sparetails.book import Book
from sparetails.desk import Desk
from sparetails.needless import lean, needless
from sparetails.notation import read_log, show_log, show_program
from sparetails.orders import compare, laid_over, placed
from sparetails.places import after, all_places, entered, ways
from sparetails.programs import Program
from sparetails.rules import Told, doubled
from sparetails.runs import looks, played, wrong_look
from sparetails.shapes import kept_points, shape_of
from sparetails.statements import copying, made, read
from sparetails.tables import Table
from sparetails.watching import alive, passed, watched
from sparetails.ways import steps_to_look, way_to_look
from sparetails.windows import Window


class Examples(unittest.TestCase):
    def test_programs_and_places(self):
        body = [("loop", [("put", "s", "s"), ("either", [[("keep", "s")], []])]), ("call", "t", "f", ("s", "s"))]
        told = Program({"main": ([], body, "t"), "f": (["u", "w"], [("cut", "u", "w")], "u")})
        self.assertEqual([told.names("main"), told.calls("main"), len(all_places(told))], [["s", "t"], ["f"], 8])
        self.assertEqual(
            [ways(told, ("main", (0,))), ways(told, ("main", (0, 0, 1))), after(told, ("main", (0, 0, 1)))],
            [[("main", (0, 0, 0)), ("main", (1,))], [("main", (0,)), ("main", (0, 0, 1, 0, 0))], ("main", (0,))])
        self.assertEqual(
            [copying(("put", "s", "t")), made(("set", "s")), read(body[1]), entered(told, ("main", (0, 0, 1)), 1)],
            [("copyput", "s", "t"), None, ["s"], ("main", (0,))])

    def test_windows_and_rules(self):
        one = Window([5, 6], rule=doubled)
        other = one.put([7])
        self.assertEqual([other.marks(), other.room, other.spare, other.shares(one)], [[5, 6, 7], 4, 1, False])
        third = other.cut(2)
        third += [9]
        self.assertEqual([third.shares(other), other.marks(), third == other, third.cut(2) == one],
                         [True, [5, 6, 9], True, True])
        rule = Told([4])
        first = Window([1], rule=rule).put([2])
        second = first.put([3, 4, 5])
        self.assertEqual([first.room, second.room, rule.asked(), rule.left, 9 in second],
                         [4, 5, [(1, 2), (4, 5)], 0, False])

    def test_a_run(self):
        body = [("take", "t", "s"), ("put", "t", "t"), ("put", "s", "s"), ("look", "t")]
        both = Program({"main": ((), [("put", "s", "s")] + body, "s")})
        run = ("spare", (1, 1), ((1, 3), (), (1,), (1,), ()))
        self.assertEqual(looks(both, run), [(("main", (4,)), [0, 2, 4], [0, 2, 3])])
        self.assertEqual(
            [wrong_look(both, run), played(both, run).names(), wrong_look(both, ("exact", (1, 1), ((1,), (), (1,), (1,), ())))],
            [0, {"s": (2, 3), "t": (2, 3)}, None])

    def test_ways_and_what_is_watched(self):
        again = [("put", "q", "p"), ("take", "r", "q"), ("call", "r", "back", ("q",))]
        back = Program({"main": ((), [("call", "s", "back", ("s",))], "s"), "back": (("p",), [("keep", "p"), ("loop", again)], "p")})
        self.assertEqual([alive(back, ("back", (1,))), watched(back, ("back", (1,)), False), passed(back, "back", False)],
                         [["p"], ["p"], [0]])
        way = [("back", (1,)), ("back", (1, 0, 0)), ("back", (1, 0, 1)), ("back", (1, 0, 2)), ("back", (0,))]
        self.assertEqual([steps_to_look(back, ("main", (0,)), "s"), way_to_look(back, ("back", (1,)), "p")], [2, way])
        self.assertEqual([needless(back), steps_to_look(lean(back), ("back", (1,)), "p")], [[("back", (1, 0, 1))], 4])

    def test_orders_and_shapes(self):
        self.assertEqual(placed((("a",), ("b",)), "c", 2), (("a",), ("c",), ("b",)))
        self.assertEqual(laid_over((("a",), ("b",)), (("a",), ("c",))),
                         [(("a",), ("b",), ("c",)), (("a",), ("b", "c")), (("a",), ("c",), ("b",))])
        self.assertEqual(kept_points(shape_of([(("x",), ("=", "y")), (("z",),)]), ["x"]), ((("x",), ("=",)),))
        self.assertEqual(compare((("a",), ("b",)), "a", "b"), -1)

    def test_tables(self):
        body = [("put", "s", "s"), ("take", "t", "s"), ("put", "t", "t"), ("put", "s", "s"), ("look", "t")]
        grown = Program({"main": ([], body, "s")})
        self.assertEqual([Table(grown, "exact").spoiling(), [row[2:] for row in Table(grown, "spare").spoiling()]],
                         [[], [((3,), ((("s",), ("t",)),))]])

    def test_books_and_texts(self):
        book = Book(Program({"main": ([], [("put", "s", "s"), ("look", "s")], "s")}))
        self.assertEqual(
            [book.do(("in", "main", (1,), ("take", "t", "s"))), book.do(("copy", "main", (0,))), len(book), book.back()],
            [[("main", (1,)), ("main", (2,)), ("main", (3,))], [("main", (0,))], 2, ("copy", "main", (0,))])
        self.assertEqual(show_program(book.program()), "function main - s\n  put s s\n  take t s\n  look s")
        self.assertEqual([show_log(book), read_log(book.past(0), show_log(book)) == book], ["in main 1\n  take t s", True])

    def test_a_desk(self):
        desk = Desk(Program({"main": ([], [("take", "t", "s"), ("put", "t", "t"), ("look", "s")], "s")}))
        self.assertEqual(
            [desk.execute("in main 0\n  put s s"), desk.execute("in main 3\n  put s s"), desk.execute("plain exact")],
            ["main@0,main@1,main@2,main@3,main@4", "main@3,main@4,main@5", "yes"])
        self.assertEqual(
            [desk.execute("plain spare"), desk.execute("watched main 2 no"), desk.execute("look spare 1,1 : 1,3 - 1 1 -")],
            ["yes", "s", "-"])

    def test_all_together_in_their_order(self):
        text = (pathlib.Path(__file__).resolve().parent / "examples.txt").read_text(encoding="utf-8")
        session = doctest.DocTestParser().get_doctest(text, {}, "examples", "examples.txt", 0)
        # A session leaves its last value among the builtins.
        self.addCleanup(builtins.__dict__.pop, "_", None)
        told = doctest.DocTestRunner(verbose=False).run(session)
        self.assertEqual((told.failed, told.attempted), (0, 56))


if __name__ == "__main__":
    unittest.main()
