"""Desks [103]."""
import random
import unittest

from sparetails.desk import Desk
from sparetails.errors import (
    BadStatement, Endless, Full, NoCommand, NoPlace, Nothing, Refused, TailError, TooMany, Wrong,
)
from sparetails.needless import needless
from sparetails.notation import show_deed, show_program, show_run
from sparetails.places import all_places
from sparetails.programs import Program
from sparetails.repairs import repairs
from sparetails.runs import wrong_look
from sparetails.spoilings import fewest_steps, is_plain
from sparetails.watching import alive, watched
from sparetails.book import Book
from tests.drawing import PUT, STRANGE, drawn_machine, drawn_program, main
from tests.test_book import TWO, drawn_deed

LOOK = ("look", "s")
GROWN = main([PUT, ("take", "t", "s"), ("put", "t", "t"), PUT, ("look", "t")])
TOOK = main([("take", "t", "s"), ("cut", "u", "t"), ("set", "u"), ("look", "s"), ("look", "t"), ("look", "u")])
HOPELESS = main([("keep", "s"), ("set", "s")])
PLAIN = main([LOOK])


def listed(things):
    return ",".join(things) or "-"


def told(places):
    return listed([function + "@" + ".".join(map(str, address)) for function, address in places])


class Desks(unittest.TestCase):
    def raises(self, desk, line, kind, **fields):
        before = (desk.execute("program"), desk.execute("log"))
        with self.assertRaises(kind) as caught:
            desk.execute(line)
        self.assertIs(type(caught.exception), kind, line)
        for name, worth in fields.items():
            self.assertEqual(getattr(caught.exception, name), worth)
        self.assertEqual((desk.execute("program"), desk.execute("log")), before)

    def test_the_example(self):
        desk = Desk(Program({"main": ([], [("take", "t", "s"), ("put", "t", "t"), ("look", "s")], "s")}))
        self.assertEqual([desk.execute("in main 0\n  put s s"), desk.execute("in main 3\n  put s s"), desk.execute("plain exact")],
                         ["main@0,main@1,main@2,main@3,main@4", "main@3,main@4,main@5", "yes"])
        self.assertEqual([desk.execute("plain spare"), desk.execute("watched main 2 no"), desk.execute("look spare 1,1 : 1,3 - 1 1 -")], ["yes", "s", "-"])

    def test_no_program(self):
        for thing in STRANGE + (Book(TWO), TWO.functions(), Desk(TWO)):
            with self.assertRaises(Wrong) as caught:
                Desk(thing)
            self.assertEqual(caught.exception.place, 0)

    def test_deeds_in_all_forms(self):
        desk, book = Desk(TWO), Book(TWO)
        for deed in (("in", "main", (0,), ("either", [[LOOK], [], [("loop", [("call", "s", "f", ("s",))])]])), ("turn", "main", (1,), LOOK), ("turn", "main", (1,), LOOK),
                     ("copy", "f", (0,)), ("share", "f", (0,)), ("out", "main", (0, 2, 0)), ("function", "spare", (["a", "b"], [("loop", [LOOK])], "s")),
                     ("function", "g", ([], [], "s")), ("gone", "spare"), ("gone", "g")):
            self.assertEqual(desk.execute(show_deed(deed)), told(book.do(deed)))
            self.assertEqual(desk.execute("program"), show_program(book.program()))
        self.assertEqual(desk.execute("log"), "\n".join(map(show_deed, book.log())))
        self.assertEqual(desk.execute("log").count("\n"), 21)

    def test_functions_that_are_called_as_growings_are(self):
        desk = Desk(TWO)
        desk.execute("function\n  function exact - s")
        self.assertEqual(desk.execute("gone exact"), "-")
        self.raises(desk, "gone exact", Refused)

    def test_deeds_that_change_nothing(self):
        self.assertEqual(Desk(TWO).execute("turn main 0\n  put s s"), "-")
        self.assertEqual(Desk(TWO).execute("gone f"), "-")

    def test_drawn_deeds(self):
        source = random.Random(103)
        for _ in range(50):
            program = drawn_program(source, most=6)
            desk, book = Desk(program), Book(program)
            for _ in range(12):
                deed = drawn_deed(source, book.program())
                try:
                    want = book.do(deed)
                except TailError as error:
                    self.raises(desk, show_deed(deed), type(error), **{name: worth for name, worth in vars(error).items()})
                    continue
                self.assertEqual(desk.execute(show_deed(deed)), told(want))
            for line, asked in (("back", book.back), ("back", book.back), ("again", book.again), ("again", book.again), ("again", book.again)):
                try:
                    want = asked()
                except Nothing:
                    self.raises(desk, line, Nothing)
                    continue
                self.assertEqual(desk.execute(line), show_deed(want))

    def test_back_and_again(self):
        desk = Desk(TWO)
        self.raises(desk, "back", Nothing)
        self.raises(desk, "again", Nothing)
        desk.execute("in main 0\n  loop\n    look s")
        desk.execute("gone f")
        self.assertEqual(desk.execute("back"), "gone f")
        self.assertEqual(desk.execute("back"), "in main 0\n  loop\n    look s")
        self.assertEqual((desk.execute("log"), desk.execute("program")), ("", show_program(TWO)))
        self.assertEqual(desk.execute("again"), "in main 0\n  loop\n    look s")
        self.raises(desk, "out main 99", Refused)
        self.assertEqual(desk.execute("again"), "gone f")
        self.raises(desk, "again", Nothing)

    def test_what_a_book_raises(self):
        desk = Desk(TWO)
        self.raises(desk, "out main 9", Refused, deed=("out", "main", (9,)))
        self.raises(desk, "copy h 0", Refused, deed=("copy", "h", (0,)))
        self.raises(desk, "gone main", Wrong, place=0)
        self.raises(desk, "in main 0\n  call s h -", BadStatement, function="main", address=(0,))
        self.raises(desk, "in f 0\n  call p f p", Endless, function="f")
        for _ in range(100):
            desk.execute("turn main 0\n  put s s")
        self.raises(desk, "turn main 0\n  put s s", Full, limit=100)
        self.raises(desk, "out main 9", Full, limit=100)

    def test_plain(self):
        for program, want in ((GROWN, ("yes", "no")), (TOOK, ("no", "no")), (PLAIN, ("yes", "yes"))):
            self.assertEqual((Desk(program).execute("plain exact"), Desk(program).execute("plain spare")), want)

    def test_steps(self):
        for program in (GROWN, TOOK, PLAIN, HOPELESS):
            for growing in ("exact", "spare"):
                want = fewest_steps(program, growing)
                self.assertEqual(Desk(program).execute("steps " + growing), "-" if want is None else str(want))
        self.assertEqual(Desk(GROWN).execute("steps spare"), "4")
        self.assertEqual(Desk(GROWN).execute("steps exact"), "-")

    def test_repairs(self):
        self.assertEqual(Desk(TOOK).execute("repairs exact"), "main@1")
        self.assertEqual(Desk(GROWN).execute("repairs spare"), "main@1\nmain@2\nmain@3")
        self.assertEqual(Desk(PLAIN).execute("repairs spare"), "-")
        self.assertEqual(Desk(HOPELESS).execute("repairs spare"), "none")
        program = main([("take", "t", "s"), ("take", "u", "t"), ("set", "u"), ("look", "s"), ("cut", "v", "s"), ("put", "v", "v"), ("look", "s")])
        self.assertEqual(Desk(program).execute("repairs exact"), "main@0,main@4\nmain@0,main@5\nmain@1,main@4\nmain@1,main@5")
        self.assertEqual(len(repairs(program, "exact")), 4)

    def test_too_many(self):
        self.raises(Desk(main([("take", "t", "s")] * 9)), "repairs exact", TooMany, limit=8)
        names = "abcd"
        changes = [[("cut", one, other)] for one, other in zip(names, "bcda")] + [[("new", "a")], [("copyput", "b", "b")]]
        desk = Desk(main([("loop", [("either", changes)])] + [("set", name) for name in names], "d"))
        for line in ("plain spare", "steps spare", "repairs spare"):
            self.raises(desk, line, TooMany, limit=1000)

    def test_alive_and_watched(self):
        source = random.Random(1031)
        for _ in range(25):
            program = drawn_program(source)
            desk = Desk(program)
            for function, address in all_places(program):
                text = function + " " + ".".join(map(str, address))
                self.assertEqual(desk.execute("alive " + text), listed(alive(program, (function, address))))
                self.assertEqual(desk.execute("watched " + text + " yes"), listed(watched(program, (function, address), True)))
                self.assertEqual(desk.execute("watched " + text + " no"), listed(watched(program, (function, address), False)))

    def test_places_that_are_none(self):
        desk = Desk(TWO)
        for word in ("main", "f", "g", "Main", "abcdefghij", "-", "@", "main@0", "1", "main\n"):
            for address in ("9", "0.0", "1.0.9", "100.0.0"):
                place = (word, tuple(map(int, address.split("."))))
                for line in ("alive {} {}", "watched {} {} yes", "watched {} {} no"):
                    self.raises(desk, line.format(word, address), NoPlace, place=place)

    def test_needless(self):
        source = random.Random(1032)
        for _ in range(40):
            program = drawn_program(source)
            self.assertEqual(Desk(program).execute("needless"), told(needless(program)))
        self.assertEqual(Desk(PLAIN).execute("needless"), "-")
        self.assertEqual(Desk(main([("take", "t", "s"), ("new", "t"), LOOK])).execute("needless"), "main@0,main@1")

    def test_look(self):
        desk = Desk(GROWN)
        self.assertEqual(desk.execute("look spare 1,1 : 1,3 - 1 1 -"), "0")
        self.assertEqual(desk.execute("look exact 1,1 : 1 - 1 1 -"), "-")
        self.assertEqual(desk.execute("look exact 1,1 :"), "-")
        for run in ("exact 1 :", "exact 1,1 : 1,3", "spare 1,1 : 1", "exact 0,1 :", "exact 1,1001 :", "exact - :", "exact 1,1 : 1 - 1 1 - -", "exact 1,1 : -"):
            self.assertEqual(desk.execute("look " + run), "no")
        source = random.Random(1033)
        for _ in range(80):
            program = drawn_program(source, names=("r", "s"))
            run = drawn_machine(source, program, source.choice(["exact", "spare"]), 40).run()
            want = wrong_look(program, run)
            self.assertEqual(Desk(program).execute("look " + show_run(run)), "-" if want is None else str(want))

    def test_what_is_asked_is_asked_of_the_program_that_stands_there(self):
        desk = Desk(GROWN)
        desk.execute("copy main 1")
        self.assertEqual((desk.execute("plain spare"), desk.execute("steps spare"), desk.execute("repairs spare")), ("yes", "-", "-"))
        desk.execute("back")
        self.assertEqual((desk.execute("plain spare"), desk.execute("steps spare")), ("no", "4"))

    def test_what_is_no_command(self):
        desk = Desk(TWO)
        for thing in STRANGE + (TWO, ["program"], ("program",), b"program"):
            self.raises(desk, thing, NoCommand)
        lines = ("back", "again", "program", "log", "plain exact", "steps spare", "repairs exact", "alive main 0", "watched main 0 yes", "needless", "look exact 1 : -",
                 "in main 0\n  look s", "out main 0", "gone f")
        for line in lines:
            for other in (line + " ", " " + line, line + "\n", "\n" + line, line.upper(), line.title(), line.replace(" ", "  ", 1) if " " in line else line + "  ",
                          line + " 00", line + " main", line.replace(" ", "\t", 1) if " " in line else line + "\t", "do " + line):
                self.raises(desk, other, NoCommand)
        for line in ("plain", "plain other", "plain Exact", "plain exact spare", "plain\nexact", "steps", "steps all", "repairs", "repairs none", "alive", "alive main", "alive main -", "alive main 00",
                     "alive main 0.01", "alive main 0.", "alive  0", "alive main  0", "alive main 0 0", "alive main@0", "alive main " + "1" * 41, "watched main 0", "watched main 0 maybe", "watched main 0 Yes",
                     "watched main 0 True", "watched main yes", "watched 0 yes", "watched  0 yes", "watched main 0 yes no", "watched main 01 no", "needless main", "look", "look ", "look s", "look main", "look  exact 1 :",
                     "look exact 1", "look exact 01 :", "look other 1 :", "look exact 1 : 1,", "look exact 1 :\n", "show", "undo", "redo", "in main 0", "out", "out main", "gone", "function", "function f - s",
                     "program main", "log 1", "back 1", "yes", "no", "-", "plain spare\nplain spare", "in main 0\n  look s\nout main 0"):
            self.raises(desk, line, NoCommand)

    def test_two_desks_by_turns(self):
        one, other = Desk(TWO), Desk(TWO)
        self.assertEqual(one.execute("gone f"), "-")
        self.assertEqual(other.execute("copy f 0"), "f@0")
        self.assertEqual((one.execute("log"), other.execute("log")), ("gone f", "copy f 0"))
        self.assertEqual(other.execute("back"), "copy f 0")
        self.raises(other, "back", Nothing)
        self.assertEqual(one.execute("back"), "gone f")
        self.assertEqual(other.execute("again"), "copy f 0")
        self.assertEqual(one.execute("program"), show_program(TWO))
        self.assertEqual(one.execute("plain exact"), "yes" if is_plain(TWO, "exact") else "no")


if __name__ == "__main__":
    unittest.main()
