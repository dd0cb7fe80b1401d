"""Texts [101] and notation [102]."""
import copy
import random
import time
import unittest

from sparetails.book import Book
from sparetails.errors import BadStatement, Broken, Endless, NoText, TailError, Wrong
from sparetails.notation import (
    read_address, read_deed, read_log, read_program, read_run, read_shape, read_statement, show_deed, show_log, show_program,
    show_run, show_shape, show_statement,
)
from sparetails.places import all_places, statement_at
from sparetails.programs import Program
from sparetails.shapes import is_shape
from sparetails.tables import Table
from tests.drawing import PUT, STRANGE, dense_program, drawn_machine, drawn_program, listed_run, main, spoil
from tests.test_book import drawn_deed

LOOK = ("look", "s")
DEEP = ("loop", [("either", [[("put", "s", "t"), ("either", [[]])], [], [("loop", []), ("call", "s", "f", ("a", "b"))], []]), ("new", "s")])
DEEP_TEXT = """loop
  either
    put s t
    either
  or
  or
    loop
    call s f a,b
  or
  new s"""
TOLD = main([PUT, LOOK], f=(["p", "q"], [("take", "q", "p")], "q"), g=([], [], "r"))
TOLD_TEXT = "function f p,q q\n  take q p\nfunction g - r\nfunction main - s\n  put s s\n  look s"
SIGNS = " \n,-<:.0123456789abcotruelp+=^!@\t\r"
NONE = STRANGE + (TOLD, Book(TOLD), b"look s", ["look s"], ("look s",))


def mutated(source, text):
    """A text with a few signs put in, left out, twice, or exchanged, or a line moved or indented otherwise."""
    for _ in range(source.choice([1, 1, 2, 3])):
        k = source.randint(0, len(text))
        kind = source.randint(0, 6)
        lines = text.split("\n")
        n = source.randrange(len(lines))
        if kind == 0:
            text = text[:k] + source.choice(SIGNS) + text[k:]
        elif kind == 1:
            text = text[:k] + text[k + 1:]
        elif kind == 2:
            text = text[:k] + text[k:k + 1] + text[k:]
        elif kind == 3:
            text = text[:k] + source.choice(SIGNS) + text[k + 1:]
        else:
            if kind == 4:
                lines.insert(source.randrange(len(lines) + 1), lines.pop(n))
            elif kind == 5:
                lines[n] = source.choice([" ", "  "]) + lines[n]
            else:
                lines[n] = lines[n][source.choice([1, 2]):]
            text = "\n".join(lines)
    return text


class Notation(unittest.TestCase):
    """What all texts have in common."""

    def refuses(self, read, *texts):
        for text in texts:
            with self.assertRaises(NoText):
                read(text)

    def only_its_texts(self, source, read, show, text, times=60):
        """A text that is changed is read as something that has this very text, or as nothing."""
        read_well = 0
        for _ in range(times):
            other = mutated(source, text)
            try:
                thing = read(other)
            except NoText:
                continue
            except (Wrong, BadStatement, Endless):
                self.assertEqual(read, read_program)
                continue
            self.assertEqual(show(thing), other)
            read_well += 1
        return read_well

    def test_no_text(self):
        for read in (read_statement, read_program, read_address, read_run, read_shape, read_deed):
            self.refuses(read, *[thing for thing in NONE if not isinstance(thing, str)])
        with self.assertRaises(NoText):
            read_log(TOLD, None)

    def test_strange_strings(self):
        for read in (read_statement, read_program, read_address, read_run, read_shape, read_deed):
            for text in ("", " ", "\n", "-", "--", ",", "a", "s", "0", "1", "main", "exact", "or", "either", "loop", "gone", "function", "call", "look"):
                try:
                    thing = read(text)
                except NoText:
                    continue
                self.assertIn((read, text), [
                    (read_address, "0"), (read_address, "1"), (read_shape, "-"), (read_shape, "a"), (read_shape, "s"), (read_shape, "main"),
                    (read_shape, "exact"), (read_shape, "or"), (read_shape, "either"), (read_shape, "loop"), (read_shape, "gone"),
                    (read_shape, "function"), (read_shape, "call"), (read_shape, "look"), (read_statement, "either"), (read_statement, "loop")])
                self.assertIsNotNone(thing)


class Statements(Notation):
    def both(self, statement, text):
        self.assertEqual(show_statement(statement), text)
        self.assertEqual(read_statement(text), statement)

    def test_each_word(self):
        for word in ("new", "set", "keep", "look"):
            self.both((word, "abcdefgh"), word + " abcdefgh")
        for word in ("take", "cut", "put", "copy", "copycut", "copyput"):
            self.both((word, "a", "or"), word + " a or")
        self.both(("call", "v", "f", ()), "call v f -")
        self.both(("call", "v", "main", ("a",)), "call v main a")
        self.both(("call", "look", "call", ("a", "a")), "call look call a,a")

    def test_bodies(self):
        self.both(DEEP, DEEP_TEXT)
        self.both(("loop", []), "loop")
        self.both(("either", [[]]), "either")
        self.both(("either", [[], []]), "either\nor")
        self.both(("either", [[], [LOOK], []]), "either\nor\n  look s\nor")
        self.both(("either", [[LOOK, ("either", [[], [LOOK]])], [LOOK]]), "either\n  look s\n  either\n  or\n    look s\nor\n  look s")
        self.both(("loop", [("loop", [("loop", [])]), LOOK]), "loop\n  loop\n    loop\n  look s")

    def test_lists_and_tuples(self):
        self.assertEqual(show_statement(("either", ((("call", "v", "f", ["a"]),), (), [("loop", ())]))), "either\n  call v f a\nor\nor\n  loop")
        told = read_statement(DEEP_TEXT)
        self.assertEqual(repr(told), repr(DEEP))

    def test_what_is_none(self):
        self.refuses(
            read_statement, "", " ", "look", "look  s", " look s", "look s ", "look s\n", "\nlook s", "look s\nlook s", "look S", "look abcdefghi", "look s t",
            "look 1", "Look s", "look\ts", "look s\r", "put s", "put s t u", "put s,t", "call v f", "call v f a b", "call v f a,b,c", "call v f a,", "call v f ,a", "call v f -,a",
            "call v f", "call v f --", "call v f A", "call f a", "either ", "either\n or", "or", "or\neither", "loop\nor", "either\n  or", "look s\nor",
            "loop\n look s", "loop\n   look s", "loop\n    look s", "loop\nlook s", "loop\n  look s\nlook s", "either\n  look s\n or\n  look s", "either\nor\nor \n",
            "look s\n  look s", "either\n  look s\n    look s", "loop\n\n  look s", "loop\n  look s\n", "loop\n  ", "loop s", "either s", "copyput s", "keep", "-", "s",
            "either\n  loop\n  or\n  look s\nor", "either\nor\n  look s\n  or", "function f - s", "in main 0")

    def test_drawn_statements(self):
        source = random.Random(101)
        well = 0
        for _ in range(150):
            program = drawn_program(source)
            for place in all_places(program):
                statement = statement_at(program, place)
                if statement is not None:
                    text = show_statement(statement)
                    told = read_statement(text)
                    self.assertEqual(told, statement)
                    spoil(told)
                    self.assertEqual(read_statement(text), statement)
                    well += self.only_its_texts(source, read_statement, show_statement, text, 5)
        self.assertGreater(well, 30)

    def test_two_hundred_blanks(self):
        for depth, good in ((99, True), (100, True), (101, False), (150, False)):
            lines = ["  " * k + "loop" for k in range(depth)] + ["  " * depth + "look s"]
            text = "\n".join(lines)
            if good:
                statement = read_statement(text)
                self.assertEqual(show_statement(statement), text)
                for _ in range(depth):
                    statement = statement[1][0]
                self.assertEqual(statement, LOOK)
            else:
                self.refuses(read_statement, text)
        self.refuses(read_statement, " " * 200 + "look s", " " * 202 + "look s")

    def test_deep_ones_are_shown(self):
        begun = time.time()
        deep = LOOK
        for _ in range(700):
            deep = ("either", [[], [deep]])
        text = show_statement(deep)
        self.assertEqual(len(text.split("\n")), 1401)
        self.assertTrue(text.endswith("\n" + "  " * 700 + "look s"))
        self.refuses(read_statement, text)
        self.assertLess(time.time() - begun, 5)

    def test_nothing_changes(self):
        statement = ("either", [[LOOK], [("loop", [("call", "s", "f", ["a"])])]])
        kept = copy.deepcopy(statement)
        show_statement(statement)
        self.assertEqual(statement, kept)


class Programs(Notation):
    def test_texts(self):
        self.assertEqual(show_program(TOLD), TOLD_TEXT)
        self.assertEqual(read_program(TOLD_TEXT), TOLD)
        self.assertEqual(show_program(main([])), "function main - s")
        self.assertEqual(read_program("function main a,b s"), Program({"main": (["a", "b"], [], "s")}))
        program = main([DEEP], f=(["p", "q"], [], "p"))
        self.assertEqual(show_program(program), "function f p,q p\nfunction main - s\n  " + DEEP_TEXT.replace("\n", "\n  "))
        self.assertEqual(read_program(show_program(program)), program)

    def test_the_example(self):
        book = Book(Program({"main": ([], [("put", "s", "s"), ("look", "s")], "s")}))
        self.assertEqual([book.do(("in", "main", (1,), ("take", "t", "s"))), book.do(("copy", "main", (0,))), len(book), book.back()],
                         [[("main", (1,)), ("main", (2,)), ("main", (3,))], [("main", (0,))], 2, ("copy", "main", (0,))])
        self.assertEqual(show_program(book.program()), "function main - s\n  put s s\n  take t s\n  look s")
        self.assertEqual([show_log(book), read_log(book.past(0), show_log(book)) == book], ["in main 1\n  take t s", True])

    def test_drawn_programs(self):
        source = random.Random(1011)
        well = 0
        for _ in range(120):
            program = drawn_program(source)
            text = show_program(program)
            self.assertEqual(read_program(text), program)
            self.assertEqual(show_program(read_program(text)), text)
            well += self.only_its_texts(source, read_program, show_program, text, 12)
        self.assertGreater(well, 30)

    def test_what_is_none(self):
        self.refuses(
            read_program, "", "\n", " ", "function", "function main", "function main -", "function main s", "function main - s ", "function main - s\n", "\nfunction main - s",
            "function main - s\n  look", "function main - s\nlook s", "function main - s\n look s", "function main - s\n    look s", "  look s\nfunction main - s",
            "function main - s\n  or", "function main - s\n  look s\n  or", " function main - s", "  function main - s", "function main a,,b s", "function main a, s",
            "function main -,a s", "function main -- s", "function Main - s", "function main - S", "function main - s s", "Function main - s", "function  main - s",
            "function main a b s", "function abcdefghi - s\nfunction main - s", "function main - s\n  call s f a,b,c", "function main - s\n  put s", "look s",
            "function main - s\n  function f - s", "function main A s", "function main - s\n\nfunction z - s", "function main - s\n  either\n or")

    def test_twice_and_not_ascending(self):
        self.refuses(read_program, "function main - s\nfunction main - s", "function main - s\nfunction f - s", "function a - s\nfunction a - s\nfunction main - s",
                     "function f - s\nfunction main - s\nfunction g - s")
        self.assertEqual(read_program("function f - s\nfunction main - s\nfunction z - s").reached(), ["main"])

    def raises(self, text, kind, **fields):
        with self.assertRaises(kind) as caught:
            read_program(text)
        self.assertIs(type(caught.exception), kind)
        self.assertEqual(vars(caught.exception), fields)

    def test_what_program_raises(self):
        self.raises("function f - s", Wrong, place=0)
        self.raises("function f a,b,c s", Wrong, place=0)
        for parameters in ("a,b,c", "a,a", "a,b,a", "a,b,c,d,e,f,g"):
            self.raises("function f " + parameters + " s\nfunction main - s", Wrong, place=0)
            self.raises("function main " + parameters + " s", Wrong, place=0)
        self.raises("function main - s\n  look s\n  loop\n    call s f -", BadStatement, function="main", address=(1, 0, 0))
        self.raises("function f p s\nfunction main - s\n  call s f -", BadStatement, function="main", address=(0,))
        self.raises("function f p s\n  call s f p\nfunction main - s", Endless, function="f")

    def test_no_text_ahead_of_what_program_raises(self):
        self.refuses(read_program, "function f - s\n  looks s", "function f a,a s\n  put s", "function main a,b,c s\n  call s f a,b,c",
                     "function main - s\n  call s f -\n  nothing", "function g a,a s\nfunction f - s")

    def test_a_thousand_statements(self):
        begun = time.time()
        source = random.Random(1012)
        body = []
        while len(body) < 1000:
            body.append(source.choice([PUT, LOOK, DEEP, ("take", "t", "s"), ("call", "s", "f", ("s", "t"))]))
        program = main(body, f=(["p", "q"], body[:0], "p"))
        text = show_program(program)
        self.assertGreater(text.count("\n"), 1000)
        self.assertEqual(read_program(text), program)
        self.assertLess(time.time() - begun, 10)

    def test_deep_bodies(self):
        begun = time.time()
        for depth, good in ((98, True), (99, True), (100, False), (400, False)):
            lines = ["function main - s"] + ["  " * (k + 1) + "either" for k in range(depth)] + ["  " * (depth + 1) + "look s"]
            text = "\n".join(lines)
            if good:
                self.assertEqual(show_program(read_program(text)), text)
            else:
                self.refuses(read_program, text)
        self.assertLess(time.time() - begun, 5)

    def test_an_or_for_each_of_many_eithers(self):
        depth = 99
        lines = ["function main - s"] + ["  " * (k + 1) + "either" for k in range(depth)]
        for k in range(depth, 0, -1):
            lines += ["  " * k + "or", "  " * (k + 1) + "look s", "  " * k + "or"]
        text = "\n".join(lines)
        self.assertEqual(show_program(read_program(text)), text)


class Addresses(Notation):
    def test_addresses(self):
        for text, want in (("0", (0,)), ("12", (12,)), ("0.0.1", (0, 0, 1)), ("1.2", (1, 2)), ("9.0.10.3.100", (9, 0, 10, 3, 100))):
            self.assertEqual(read_address(text), want)
        great = "9" * 40
        self.assertEqual(read_address(great + ".0"), (int(great), 0))
        self.assertEqual(read_address("1" + "0" * 39), (10 ** 39,))

    def test_what_is_none(self):
        self.refuses(read_address, "", ".", "0.", ".0", "0..1", "-", "00", "01", "0.01", "+1", "-1", "1,2", "1 ", " 1", "1\n", "1.2.", "a", "1e3", "1_0", "9" * 41, "1" + "0" * 40,
                     "0." + "1" * 41, "\u0661", "\u00b2", "0x1", "1.0.a")


class Runs(Notation):
    def both(self, run, text):
        self.assertEqual(show_run(run), text)
        self.assertEqual(show_run(listed_run(run)), text)
        told = read_run(text)
        self.assertEqual(told, run)
        self.assertEqual(repr(told), repr(run))

    def test_texts(self):
        self.both(("spare", (1, 1), ((1, 3), (), (1,), (1,), ())), "spare 1,1 : 1,3 - 1 1 -")
        self.both(("exact", (), ()), "exact - :")
        self.both(("spare", (), ((),)), "spare - : -")
        self.both(("exact", (0, 12), ((0,),)), "exact 0,12 : 0")
        self.both(("exact", (10 ** 40 - 1,), ((1, 2, 3), (10 ** 39,))), "exact " + "9" * 40 + " : 1,2,3 1" + "0" * 39)

    def test_runs_of_drawn_programs(self):
        source = random.Random(1013)
        well = 0
        for _ in range(100):
            program = drawn_program(source)
            run = drawn_machine(source, program, source.choice(["exact", "spare"]), 30).run()
            self.both(run, show_run(run))
            well += self.only_its_texts(source, read_run, show_run, show_run(run), 20)
        self.assertGreater(well, 100)

    def test_what_is_none(self):
        self.refuses(
            read_run, "", "exact", "exact :", "exact -", "exact - : ", "exact - :  -", "exact  - :", " exact - :", "exact - :\n", "exact - ; 1", "other - :", "Exact - :", "exact 1, :",
            "exact ,1 :", "exact 1,,2 :", "exact 01 :", "exact -1 :", "exact a :", "exact - : a", "exact - : 1,", "exact - : 1,-", "exact - : --", "exact - : 01", "exact - : 1 : 1", "exact 1 2 : 1",
            "exact - : 1\n2", "exact - 1", "exact : -", "exact " + "1" * 41 + " :", "exact - : " + "1" * 41, "exact - :-", "exact -:", "spare 1.1 : 1", "spare 1 : 1 ")


class Shapes(Notation):
    def both(self, shape, text):
        self.assertEqual(show_shape(shape), text)
        told = read_shape(text)
        self.assertEqual(told, shape)
        self.assertEqual(repr(told), repr(shape))

    def test_texts(self):
        self.both((), "-")
        self.both(((("s",),),), "s")
        self.both(((("=", "s"),), (("t",),)), "=,s t")
        self.both(((("!", "+0", "a"), ("+1", "=", "^")),), "!,+0,a<+1,=,^")
        self.both(((("!",), ("b",)), (("!", "+0"), ("^", "abcdefgh"), ("=",)), (("=",),)), "!<b !,+0<^,abcdefgh<= =")
        self.refuses(read_shape, "!,+0<^,abcdefgh<= !<b =")

    def test_shapes_of_tables(self):
        source = random.Random(1014)
        shapes = set()
        while len(shapes) < 150:
            program = dense_program(source, ("p", "r", "s"))
            try:
                shapes |= {row[3] for row in Table(program, "spare", most=150).rows()}
            except TailError:
                continue
        well = 0
        for shape in sorted(shapes):
            self.both(shape, show_shape(shape))
            well += self.only_its_texts(source, read_shape, show_shape, show_shape(shape), 12)
        self.assertGreater(well, 100)

    def test_what_is_read_is_a_shape(self):
        source = random.Random(1015)
        for _ in range(4000):
            text = "".join(source.choice("ab+01=^!<, -") for _ in range(source.randint(0, 7)))
            try:
                shape = read_shape(text)
            except NoText:
                continue
            self.assertIs(is_shape(shape), True)
            self.assertEqual(show_shape(shape), text)

    def test_what_is_none(self):
        self.refuses(
            read_shape, "", " ", "- ", "--", "-,-", "s -", "s,", ",s", "<s", "s<", "s<<t", "s  t", "t s", "s s", "s<s", "s,s", "t,s", "s,=", "+2", "+", "0", "*", "A", "abcdefghi", "s\n", "s\nt", "+0,+0",
            "s<t s", "b a", "s ", " s", "a<b,a", "= =,a !", "a>b", "a;b", "(s)")


class Deeds(Notation):
    DEEDS = (
        (("in", "main", (1,), ("take", "t", "s")), "in main 1\n  take t s"),
        (("in", "f", (0, 1, 2), DEEP), "in f 0.1.2\n  " + DEEP_TEXT.replace("\n", "\n  ")),
        (("turn", "main", (0,), ("loop", [])), "turn main 0\n  loop"),
        (("turn", "main", (0,), ("either", [[], [LOOK]])), "turn main 0\n  either\n  or\n    look s"),
        (("out", "main", (10, 0, 3)), "out main 10.0.3"),
        (("copy", "or", (0,)), "copy or 0"),
        (("share", "main", (0, 0)), "share main 0.0"),
        (("function", "f", ([], [], "s")), "function\n  function f - s"),
        (("function", "main", (["a", "b"], [DEEP, LOOK], "s")), "function\n  function main a,b s\n    " + DEEP_TEXT.replace("\n", "\n    ") + "\n    look s"),
        (("gone", "main"), "gone main"),
    )

    def test_texts(self):
        for deed, text in self.DEEDS:
            self.assertEqual(show_deed(deed), text)
            told = read_deed(text)
            self.assertEqual(repr(told), repr(deed))

    def test_lists_and_tuples(self):
        self.assertEqual(show_deed(("function", "f", (("a",), (("either", ((), (LOOK,))),), "s"))), "function\n  function f a s\n    either\n    or\n      look s")
        self.assertEqual(show_deed(("in", "f", (0,), ("call", "a", "b", ["c", "d"]))), "in f 0\n  call a b c,d")

    def test_what_is_none(self):
        self.refuses(
            read_deed, "", "in main 0", "in main 0\n", "in main 0\n  ", "in main 0\nlook s", "in main 0\n look s", "in main 0\n    look s", "in main 0\n  look s\n  look s", "in main 0\n  look s\n",
            "in main 0\n  look s\nor", "in main 0\n  or", "in main\n  look s", "in 0\n  look s", "in main -\n  look s", "in main 00\n  look s", "in main 0 \n  look s", " in main 0\n  look s",
            "in Main 0\n  look s", "In main 0\n  look s", "in main 0 0\n  look s", "in main 0.\n  look s", "turn main 0", "out main", "out main 0\n  look s", "out main 0\n", "out main 0 1", "copy main",
            "copy main 0\n  take t s", "share main", "share main 0\n", "gone", "gone main 0", "gone Main", "gone main\n", "gone main\n  look s", "gone  main", "function", "function\n", "function f - s",
            "function\nfunction f - s", "function\n function f - s", "function\n    function f - s", "function\n  function f - s\n  look s", "function\n  function f - s\n      look s", "function\n  look s",
            "function f\n  function f - s", "function\n  function f a,a s", "function\n  function f a,b,c s", "function\n  function f - s\n  function g - s", "function\n  function f -", "out main 0\nout main 0",
            "in main 0\n  call s f a,b,c", "function\n  function f - s\n    or", "look s", "back", "in main " + "1" * 41 + "\n  look s", "undo main 0", "in\n  look s", "function \n  function f - s")

    def test_drawn_deeds(self):
        source = random.Random(1016)
        well = 0
        for _ in range(250):
            deed = drawn_deed(source, drawn_program(source, most=5))
            text = show_deed(deed)
            self.assertEqual(read_deed(text), deed)
            well += self.only_its_texts(source, read_deed, show_deed, text, 15)
        self.assertGreater(well, 200)

    def test_blanks(self):
        for depth, good in ((99, True), (100, False)):
            text = "in main 0\n" + "\n".join("  " * (k + 1) + "loop" for k in range(depth)) + "\n" + "  " * (depth + 1) + "look s"
            if good:
                self.assertEqual(show_deed(read_deed(text)), text)
            else:
                self.refuses(read_deed, text)
        for depth, good in ((98, True), (99, False)):
            text = "function\n  function f - s\n" + "\n".join("  " * (k + 2) + "loop" for k in range(depth)) + "\n" + "  " * (depth + 2) + "look s"
            if good:
                self.assertEqual(show_deed(read_deed(text)), text)
            else:
                self.refuses(read_deed, text)

    def test_what_is_read_belongs_to_the_caller(self):
        for deed, text in self.DEEDS:
            spoil(read_deed(text))
            self.assertEqual(read_deed(text), deed)


class Logs(Notation):
    def drawn_book(self, source, deeds):
        book = Book(drawn_program(source, most=5))
        for _ in range(deeds):
            try:
                book.do(drawn_deed(source, book.program()))
            except TailError:
                continue
        return book

    def test_no_deeds(self):
        self.assertEqual(show_log(Book(TOLD)), "")
        self.assertEqual(read_log(TOLD, ""), Book(TOLD))
        self.assertEqual(len(read_log(TOLD, "")), 0)

    def test_drawn_books(self):
        source = random.Random(1017)
        for _ in range(60):
            book = self.drawn_book(source, 12)
            text = show_log(book)
            again = read_log(book.past(0), text)
            self.assertEqual(again, book)
            self.assertEqual((again.log(), again.program(), show_log(again)), (book.log(), book.program(), text))
            self.assertEqual(text, "\n".join(map(show_deed, book.log())))
            for _ in range(20):
                other = mutated(source, text)
                try:
                    self.assertEqual(show_log(read_log(book.past(0), other)), other)
                except (NoText, Broken):
                    pass

    def test_what_was_undone_is_none_of_it(self):
        book = Book(TOLD)
        book.do(("copy", "main", (0,)))
        book.do(("gone", "g"))
        book.back()
        self.assertEqual(show_log(book), "copy main 0")

    def test_what_is_none(self):
        for text in ("\n", " ", "copy main 0\n", "\ncopy main 0", "copy main 0\n\ngone g", "copy main 0\ngone", "copy main 0\n  look s", "look s", "  look s\ncopy main 0", "copy main 0\n or", "in main 0\n  look s\n  look s\ngone g"):
            with self.assertRaises(NoText):
                read_log(TOLD, text)
        for thing in NONE:
            if thing != "":
                with self.assertRaises(NoText):
                    read_log(TOLD, thing)

    def broken(self, text, at, program=TOLD):
        with self.assertRaises(Broken) as caught:
            read_log(program, text)
        self.assertEqual(caught.exception.at, at)

    def test_deeds_that_are_refused(self):
        self.broken("out main 9", 0)
        self.broken("copy main 0\nshare main 0\nshare main 0", 2)
        self.broken("gone g\ngone g", 1)
        self.broken("gone main", 0)
        self.broken("copy main 0\nin main 0\n  call s h -", 1)
        self.broken("copy main 0\nin f 0\n  call p f p,p", 1)
        self.broken("out main 9\nout main 9", 0)

    def test_no_text_ahead_of_it(self):
        with self.assertRaises(NoText):
            read_log(TOLD, "out main 9\nout main")

    def test_a_hundred_deeds_and_one(self):
        begun = time.time()
        lines = ["in main 0\n  look s"] * 100
        book = read_log(TOLD, "\n".join(lines))
        self.assertEqual(len(book), 100)
        self.assertEqual(show_log(book), "\n".join(lines))
        self.broken("\n".join(lines + ["out main 0"]), 100)
        self.broken("\n".join(lines[:50] + ["out main 500"] + lines), 50)
        with self.assertRaises(NoText):
            read_log(TOLD, "\n".join(lines + ["out main"]))
        with self.assertRaises(NoText):
            read_log(TOLD, "\n".join(lines + ["out main 0", ""]))
        self.assertLess(time.time() - begun, 10)

    def test_a_great_program(self):
        begun = time.time()
        program = main([DEEP] * 120, f=(["p", "q"], [], "p"))
        book = read_log(program, "\n".join(["in main 0.0.0\n  look s"] * 100))
        self.assertEqual(len(book), 100)
        self.assertLess(time.time() - begun, 10)


if __name__ == "__main__":
    unittest.main()
