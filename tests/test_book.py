"""Books [100], [14]."""
import copy
import random
import unittest

from sparetails.book import Book
from sparetails.errors import (
    BadStatement, Endless, Full, NoDeed, NoEntry, Nothing, Refused, TailError, Wrong,
)
from sparetails.places import all_places, statement_at
from sparetails.programs import Program
from sparetails.statements import copying, sharing
from tests.drawing import PUT, STRANGE, at, drawn_program, drawn_statement, has_a_list_twice, in_f, main, share_a_list, spoil

LOOK = ("look", "s")
LOOP = ("loop", [("either", [[LOOK], []]), PUT])
TWO = main([PUT, LOOP, LOOK], f=(["p"], [("take", "q", "p")], "q"))


def changed(elder, newer):
    """What do is to return, by statement_at of both Programs at each place."""
    known = all_places(elder)
    return [place for place in all_places(newer)
            if place not in known or statement_at(elder, place) != statement_at(newer, place)]


def edited(program, deed):
    """The functions that a deed makes, with bodies that are rebuilt on the way to its address; None if it is refused."""
    told = program.functions()
    if deed[0] == "function":
        return {**told, deed[1]: deed[2]}
    if deed[1] not in told:
        return None
    if deed[0] == "gone":
        return {name: one for name, one in told.items() if name != deed[1]}
    parameters, body, result = told[deed[1]]
    body = within(body, deed[2], deed)
    return None if body is None else {**told, deed[1]: (parameters, body, result)}


def within(body, address, deed):
    k = address[0]
    if len(address) == 1:
        if k > len(body) or (k == len(body) and deed[0] != "in"):
            return None
        if deed[0] == "in":
            return body[:k] + [deed[3]] + body[k:]
        turned = {"out": lambda: None, "turn": lambda: deed[3], "copy": lambda: copying(body[k]), "share": lambda: sharing(body[k])}[deed[0]]()
        if deed[0] == "out":
            return body[:k] + body[k + 1:]
        return None if turned is None else body[:k] + [turned] + body[k + 1:]
    if k >= len(body) or len(address) < 3 or body[k][0] not in ("loop", "either"):
        return None
    inner = [body[k][1]] if body[k][0] == "loop" else body[k][1]
    if address[1] >= len(inner):
        return None
    newer = within(inner[address[1]], address[2:], deed)
    if newer is None:
        return None
    inner = inner[:address[1]] + [newer] + inner[address[1] + 1:]
    return body[:k] + [("loop", inner[0]) if body[k][0] == "loop" else ("either", inner)] + body[k + 1:]


def drawn_deed(source, program):
    """A deed that may be refused."""
    functions = program.functions()
    word = source.choice(["in"] * 5 + ["out", "turn", "turn", "copy", "share", "function", "gone"])
    name = source.choice([*functions, *functions, "h"])
    counts = {one: len(told[0]) for one, told in functions.items() if one != "main"}
    statement = drawn_statement(source, counts, [4], 2)
    if word == "function":
        return (word, source.choice(["f", "g", "main"]), (["p", "q"][:source.randint(0, 2)], [statement], source.choice("ps")))
    if word == "gone":
        return (word, name)
    places = [address for function, address in all_places(program) if function == name] or [(0,)]
    address = source.choice(places)
    if source.random() < 0.25:
        address = source.choice([address + (0, 0), address[:-1] + (address[-1] + 1,), address + (0,), address[:-1] + (9,), address + (1, 1)])
    return (word, name, address, statement) if word in ("in", "turn") else (word, name, address)


class Do(unittest.TestCase):
    def check(self, program, deed, places=None):
        """Does a deed with a new Book; compares with the program by hand."""
        book = Book(program)
        told = book.do(deed)
        self.assertEqual(book.program(), Program(edited(program, deed)))
        self.assertEqual(told, changed(program, book.program()))
        if places is not None:
            self.assertEqual(told, places)
        self.assertEqual((len(book), len(book.log())), (1, 1))
        return book

    def test_in(self):
        self.check(TWO, ("in", "main", (0,), LOOK))
        book = self.check(TWO, ("in", "main", (3,), LOOK), [at(3), at(4)])
        self.assertEqual(book.program().functions()["main"][1], [PUT, LOOP, LOOK, LOOK])
        book = self.check(TWO, ("in", "main", (1, 0, 2), LOOK), [at(1), at(1, 0, 2)])
        self.assertEqual(book.program().functions()["main"][1][1], ("loop", [("either", [[LOOK], []]), PUT, LOOK]))
        book = self.check(TWO, ("in", "main", (1, 0, 0, 1, 0), PUT), [at(1), at(1, 0, 0), at(1, 0, 0, 1, 0)])
        self.assertEqual(book.program().functions()["main"][1][1], ("loop", [("either", [[LOOK], [PUT]]), PUT]))
        self.check(TWO, ("in", "main", (1, 0, 0, 0, 1), PUT))
        self.check(TWO, ("in", "f", (0,), PUT))
        self.check(main([]), ("in", "main", (0,), LOOP))

    def test_out(self):
        book = self.check(TWO, ("out", "main", (1,)), [at(1), at(2)])
        self.assertEqual(book.program().functions()["main"][1], [PUT, LOOK])
        self.check(TWO, ("out", "main", (1, 0, 0, 0, 0)), [at(1), at(1, 0, 0)])
        self.check(TWO, ("out", "main", (2,)), [at(2)])
        self.check(TWO, ("out", "f", (0,)))

    def test_turn(self):
        self.check(TWO, ("turn", "main", (1,), PUT), [at(1)])
        self.check(TWO, ("turn", "main", (0,), LOOP))
        book = self.check(TWO, ("turn", "main", (1,), LOOP), [])
        self.assertEqual(book.program(), TWO)
        self.check(TWO, ("turn", "main", (1, 0, 1), LOOK), [at(1), at(1, 0, 1)])

    def test_copy_and_share(self):
        book = self.check(TWO, ("copy", "main", (1, 0, 1)), [at(1), at(1, 0, 1)])
        self.assertEqual(book.do(("share", "main", (1, 0, 1))), [at(1), at(1, 0, 1)])
        self.assertEqual(book.program(), TWO)
        book = self.check(TWO, ("copy", "f", (0,)), [in_f(0)])
        self.assertEqual(book.program().functions()["f"][1], [("copy", "q", "p")])

    def test_functions(self):
        self.check(TWO, ("function", "g", ([], [LOOK], "s")), [("g", (0,)), ("g", (1,))])
        self.check(TWO, ("function", "f", (["p"], [("take", "q", "p")], "q")), [])
        self.check(TWO, ("function", "f", (("p",), (("take", "q", "p"),), "r")), [])
        self.check(TWO, ("function", "f", (["a", "b"], [], "b")), [in_f(0)])
        self.check(TWO, ("function", "main", (["p"], (LOOK,), "q")))
        self.check(TWO, ("gone", "f"), [])

    def test_places_of_a_body_that_becomes_longer(self):
        self.check(TWO, ("in", "main", (0,), PUT))
        self.check(main([LOOK, LOOK]), ("in", "main", (0,), LOOK), [at(2), at(3)])
        self.check(main([LOOK, LOOK]), ("out", "main", (0,)), [at(1)])

    def test_drawn_deeds(self):
        source = random.Random(100)
        done = {}
        for _ in range(120):
            book = Book(drawn_program(source, most=6))
            first = book.program()
            for _ in range(15):
                elder = book.program()
                deed = drawn_deed(source, elder)
                kept, log, could = copy.deepcopy(deed), book.log(), book.tried(deed)
                want = edited(elder, deed)
                try:
                    told = book.do(deed)
                except TailError as error:
                    self.assertIs(could, False)
                    self.assertIs(book.program(), elder)
                    self.assertEqual(book.log(), log)
                    if want is None:
                        self.assertIsInstance(error, Refused)
                        self.assertIs(error.deed, deed)
                    else:
                        with self.assertRaises(type(error)) as caught:
                            Program(want)
                        self.assertEqual(vars(caught.exception), vars(error))
                    done[type(error).__name__] = done.get(type(error).__name__, 0) + 1
                    continue
                self.assertIs(could, True)
                self.assertEqual(book.program(), Program(want))
                self.assertEqual(told, changed(elder, book.program()))
                self.assertEqual(deed, kept)
                done[deed[0]] = done.get(deed[0], 0) + 1
            self.assertEqual(book.past(0), first)
            for many, deed in enumerate(book.log()):
                self.assertEqual(book.past(many + 1), Program(edited(book.past(many), deed)))
        self.assertLessEqual({"in", "out", "turn", "copy", "share", "function", "gone", "Refused", "BadStatement", "Wrong"}, set(done))

    def test_lists_and_tuples_emptied_afterwards(self):
        inner = [LOOK]
        bodies = [inner, (PUT,)]
        names = ["s"]
        for deed in (("in", "main", (0,), ("either", bodies)), ("turn", "main", (0,), ("loop", inner)), ("in", "main", (0,), ("call", "s", "f", names)),
                     ("function", "g", ([], inner, "s"))):
            book = Book(TWO)
            kept = copy.deepcopy(deed)
            book.do(deed)
            told, log = book.program().functions(), book.log()
            spoil(deed)
            self.assertEqual((book.program().functions(), book.log()), (told, log))
            self.assertEqual(book.program(), Program(edited(TWO, kept)))
            inner[:], bodies[:], names[:] = [LOOK], [inner, (PUT,)], ["s"]

    def test_the_form_of_the_log(self):
        book = Book(TWO)
        book.do(("in", "main", (0,), ("either", ((), (("loop", ()), ("call", "s", "f", ["s"]))))))
        book.do(("function", "g", (("a",), (("loop", ()),), "b")))
        self.assertEqual(book.log(), [("in", "main", (0,), ("either", [[], [("loop", []), ("call", "s", "f", ("s",))]])),
                                      ("function", "g", (["a"], [("loop", [])], "b"))])
        self.assertEqual(repr(book.log()[1]), "('function', 'g', (['a'], [('loop', [])], 'b'))")

    def test_lists_changed_afterwards(self):
        book = Book(TWO)
        book.do(("in", "main", (0,), LOOP))
        book.do(("function", "g", (["a"], [LOOP, LOOP], "b")))
        first = book.log()
        want = copy.deepcopy(first)
        self.assertFalse(share_a_list(first, book.log()) or has_a_list_twice(first))
        spoil(first)
        self.assertEqual(book.log(), want)
        spoil(book.back())
        spoil(book.again())
        self.assertEqual(book.log(), want)
        spoil(book.program().functions())
        self.assertEqual(book.log(), want)


class Raised(unittest.TestCase):
    def raises(self, book, deed, kind, **fields):
        log, program = book.log(), book.program()
        with self.assertRaises(kind) as caught:
            book.do(deed)
        self.assertIs(type(caught.exception), kind)
        if kind is Refused:
            self.assertIs(caught.exception.deed, deed)
        for name, worth in fields.items():
            self.assertEqual(getattr(caught.exception, name), worth)
        self.assertIs(book.tried(deed), False)
        self.assertEqual((book.log(), book.program()), (log, program))

    def test_no_program(self):
        for thing in STRANGE + (TWO.functions(), Book(TWO)):
            with self.assertRaises(Wrong) as caught:
                Book(thing)
            self.assertEqual(caught.exception.place, 0)

    def test_no_deed(self):
        book = Book(TWO)
        forms = (("in", "main", (0,), LOOK), ("out", "main", (0,)), ("turn", "main", (0,), LOOK), ("copy", "main", (0,)), ("share", "main", (0,)),
                 ("function", "g", ([], [], "s")), ("gone", "f"))
        for thing in STRANGE + (TWO, book):
            self.raises(book, thing, NoDeed)
        for deed in forms:
            self.raises(book, list(deed), NoDeed)
            self.raises(book, deed[:-1], NoDeed)
            self.raises(book, deed + ((),), NoDeed)
            self.raises(book, (deed[0].upper(), *deed[1:]), NoDeed)
            self.raises(book, (None, *deed[1:]), NoDeed)
            for name in ("Main", "", "abcdefghi", None, 1, ("main",), b"main"):
                self.raises(book, (deed[0], name, *deed[2:]), NoDeed)
        for deed in forms[:5]:
            for address in ((), [0], (True,), (-1,), ("0",), (0, None), 0, None, (0, 0, -1), ((0,),)):
                self.raises(book, (*deed[:2], address, *deed[3:]), NoDeed)
        for word in ("in", "turn"):
            for statement in (list(LOOK), ("look",), ("look", "S"), ("loop", [["look", "s"]]), ("either", []), ("either", [[], None]), None, "look s",
                              ("call", "s", "f", ("a", "b", "c")), ("or",), ("loop", LOOK)):
                self.raises(book, (word, "main", (0,), statement), NoDeed)
        for told in ([[], [], "s"], ([], []), ([], [], "s", ()), (["p", "p"], [], "s"), (["a", "b", "c"], [], "s"), (None, [], "s"), ([], None, "s"),
                     ([], [], "S"), ([], [None], "s"), ([], [("look", "s"), ["look", "s"]], "s"), ({"a": 1}, [], "s"), ([], ["look"], "s"), ("ab", [], "s")):
            self.raises(book, ("function", "g", told), NoDeed)

    def test_refused(self):
        book = Book(TWO)
        for address in ((4,), (9,), (0, 0, 0), (1, 1, 0), (1, 0), (1, 0, 3), (0, 0), (1, 0, 0, 2, 0), (1, 0, 0, 1, 1), (1, 0, 0, 0, 2), (2, 0, 0), (1, 0, 0, 0, 0, 0, 0), (3, 0, 0),
                        (10 ** 39,), (1, 10 ** 39, 0)):
            for deed in (("in", "main", address, LOOK), ("out", "main", address), ("turn", "main", address, LOOK), ("copy", "main", address), ("share", "main", address)):
                self.raises(book, deed, Refused)
        for deed in (("in", "g", (0,), LOOK), ("out", "g", (0,)), ("turn", "g", (0,), LOOK), ("copy", "g", (0,)), ("share", "g", (0,)), ("gone", "g")):
            self.raises(book, deed, Refused)
        for deed in (("out", "main", (3,)), ("turn", "main", (3,), LOOK), ("copy", "main", (3,)), ("share", "f", (1,)), ("out", "main", (1, 0, 2)),
                     ("copy", "main", (1,)), ("copy", "main", (2,)), ("share", "main", (0,)), ("share", "f", (0,)), ("share", "main", (1, 0, 0))):
            self.raises(book, deed, Refused)

    def test_what_program_raises(self):
        book = Book(TWO)
        self.raises(book, ("gone", "main"), Wrong, place=0)
        self.raises(book, ("in", "main", (1, 0, 1), ("call", "s", "h", ())), BadStatement, function="main", address=(1, 0, 1))
        self.raises(book, ("in", "f", (1,), ("loop", [LOOK, ("call", "s", "main", ())])), BadStatement, function="f", address=(1, 0, 1))
        self.raises(book, ("turn", "main", (0,), ("call", "s", "f", ("a", "b"))), BadStatement, function="main", address=(0,))
        self.raises(book, ("in", "f", (0,), ("call", "q", "f", ("p",))), Endless, function="f")
        self.raises(book, ("function", "main", ([], [("call", "s", "g", ())], "s")), BadStatement, function="main", address=(0,))
        book.do(("in", "main", (0,), ("call", "s", "f", ("s",))))
        self.raises(book, ("gone", "f"), BadStatement, function="main", address=(0,))
        self.raises(book, ("function", "f", ([], [], "s")), BadStatement, function="main", address=(0,))

    def test_full(self):
        book = Book(main([]))
        for _ in range(99):
            book.do(("in", "main", (0,), LOOK))
        refused = ("out", "main", (500,))
        self.raises(book, refused, Refused)
        book.do(("in", "main", (0,), LOOK))
        self.assertEqual(len(book), 100)
        for deed in (("in", "main", (0,), LOOK), refused, ("gone", "main"), ("turn", "main", (0,), LOOK)):
            self.raises(book, deed, Full, limit=100)
        self.raises(book, ("in", "main"), NoDeed)
        self.raises(book, None, NoDeed)
        book.back()
        book.back()
        book.again()
        self.raises(book, refused, Refused)
        book.again()
        self.raises(book, refused, Full, limit=100)
        self.assertEqual(len(book.program().functions()["main"][1]), 100)


class BackAndAgain(unittest.TestCase):
    def setUp(self):
        self.book = Book(TWO)
        self.deeds = [("in", "main", (0,), LOOK), ("out", "main", (1,)), ("function", "g", ([], [LOOP], "s")), ("gone", "f")]
        for deed in self.deeds:
            self.book.do(deed)
        self.pasts = [self.book.past(many) for many in range(5)]

    def nothing(self, asked):
        with self.assertRaises(Nothing):
            asked()

    def test_back_and_again(self):
        for many in range(4, 0, -1):
            self.assertEqual(self.book.back(), self.deeds[many - 1])
            self.assertEqual((self.book.program(), len(self.book), self.book.log()), (self.pasts[many - 1], many - 1, self.deeds[:many - 1]))
        self.nothing(self.book.back)
        for many in range(4):
            self.assertEqual(self.book.again(), self.deeds[many])
            self.assertEqual((self.book.program(), self.book.log()), (self.pasts[many + 1], self.deeds[:many + 1]))
        self.nothing(self.book.again)

    def test_nothing(self):
        book = Book(TWO)
        self.nothing(book.back)
        self.nothing(book.again)
        self.assertEqual((len(book), book.log(), book.program()), (0, [], TWO))

    def test_behind_a_new_deed(self):
        self.book.back()
        self.book.back()
        self.book.do(("copy", "f", (0,)))
        self.nothing(self.book.again)
        self.assertEqual(self.book.log(), self.deeds[:2] + [("copy", "f", (0,))])

    def test_behind_a_deed_that_is_refused_and_behind_tried(self):
        self.book.back()
        for deed in (None, ("out", "main", (9,)), ("gone", "main"), ("in", "f", (0,), ("call", "q", "f", ("p",)))):
            self.assertIs(self.book.tried(deed), False)
            with self.assertRaises(TailError):
                self.book.do(deed)
        self.assertIs(self.book.tried(("in", "main", (0,), LOOK)), True)
        self.assertEqual(self.book.log(), self.deeds[:3])
        self.assertEqual(self.book.again(), self.deeds[3])
        self.assertEqual(self.book.program(), self.pasts[4])

    def test_the_form_of_what_they_return(self):
        book = Book(TWO)
        book.do(("in", "main", (0,), ("loop", (LOOK,))))
        self.assertEqual(book.back(), ("in", "main", (0,), ("loop", [LOOK])))
        self.assertEqual(book.again(), ("in", "main", (0,), ("loop", [LOOK])))

    def test_past(self):
        for many in range(5):
            self.assertEqual(self.book.past(many), self.pasts[many])
        self.book.back()
        for many in (4, 5, -1, True, False, None, "1", (), 10 ** 39, [0], (0,), self.book):
            with self.assertRaises(NoEntry) as caught:
                self.book.past(many)
            self.assertIs(caught.exception.many, many)
        self.assertEqual(self.book.past(3), self.pasts[3])
        self.assertEqual(Book(TWO).past(0), TWO)


class CopiesAndEquality(unittest.TestCase):
    def test_copied(self):
        book = Book(TWO)
        book.do(("in", "main", (0,), LOOK))
        book.do(("copy", "f", (0,)))
        book.back()
        other = book.copied()
        self.assertEqual(other, book)
        self.assertEqual(other.again(), ("copy", "f", (0,)))
        self.assertNotEqual(other, book)
        self.assertEqual(book.again(), ("copy", "f", (0,)))
        self.assertEqual(other, book)
        other.do(("gone", "f"))
        book.back()
        self.assertEqual((len(other), len(book)), (3, 1))
        self.assertEqual(book.again(), ("copy", "f", (0,)))
        with self.assertRaises(Nothing):
            other.again()

    def test_equality(self):
        one, other = Book(TWO), Book(main([PUT, LOOP, LOOK], f=(("p",), (("take", "q", "p"),), "q")))
        self.assertIs(one == other, True)
        one.do(("in", "main", (0,), ("loop", (LOOK,))))
        self.assertIs(one == other, False)
        self.assertIs(one != other, True)
        other.do(("in", "main", (0,), ("loop", [LOOK])))
        self.assertIs(one == other, True)
        self.assertIs(one == Book(one.program()), False)
        one.back()
        self.assertIs(one == Book(TWO), True)
        two = Book(TWO)
        two.do(("turn", "main", (0,), PUT))
        self.assertEqual(two.program(), TWO)
        self.assertIs(two == Book(TWO), False)
        three = Book(TWO)
        three.do(("turn", "main", (2,), LOOK))
        self.assertIs(two == three, False)
        for thing in STRANGE + (TWO,):
            self.assertIs(one == thing, False)

    def test_another_first_program_with_the_same_log(self):
        one, other = Book(main([LOOK])), Book(main([PUT]))
        for book in (one, other):
            book.do(("turn", "main", (0,), LOOP))
        self.assertEqual(one.program(), other.program())
        self.assertIs(one == other, False)

    def test_deep_statements(self):
        deep = LOOK
        for _ in range(300):
            deep = ("either", [[deep], []])
        one, other = Book(TWO), Book(TWO)
        for book in (one, other):
            self.assertEqual(len(book.do(("in", "main", (3,), deep))), 302)
        self.assertIs(one == other, True)
        self.assertEqual(len(one.log()), 1)
        one.back()
        one.again()
        self.assertIs(one == other, True)


class Blocks(unittest.TestCase):
    def setUp(self):
        self.book = Book(TWO)
        self.book.do(("in", "main", (0,), LOOK))
        self.book.do(("copy", "f", (0,)))
        self.book.back()

    def stands(self):
        book = self.book.copied()
        undone = []
        while True:
            try:
                undone.append(book.again())
            except Nothing:
                return (self.book.log(), self.book.program().functions(), undone)

    def test_it_is_called_with_the_book_itself(self):
        seen = []

        def act(book):
            seen.append(book)
            book.do(("gone", "f"))
            return [1, 2]

        self.assertEqual(self.book.block(act), [1, 2])
        self.assertIs(seen[0], self.book)
        self.assertEqual(len(self.book), 2)
        with self.assertRaises(Nothing):
            self.book.again()

    def test_what_it_returns(self):
        thing = {"a": []}
        self.assertIs(self.book.block(lambda book: thing), thing)
        self.assertIsNone(self.book.block(lambda book: None))

    def test_errors(self):
        class Other(Exception):
            pass

        want = self.stands()
        for error in (Nothing(), Refused(3), KeyError(1), Other(), ZeroDivisionError(), KeyboardInterrupt(), StopIteration()):
            def act(book):
                book.again()
                book.do(("in", "main", (0,), PUT))
                book.back()
                book.back()
                book.do(("gone", "f"))
                raise error

            with self.assertRaises(type(error)) as caught:
                self.book.block(act)
            self.assertIs(caught.exception, error)
            self.assertEqual(self.stands(), want)

    def test_errors_of_the_book(self):
        want = self.stands()

        def act(book):
            book.do(("in", "main", (0,), PUT))
            book.do(("out", "main", (99,)))

        with self.assertRaises(Refused):
            self.book.block(act)
        self.assertEqual(self.stands(), want)

    def test_errors_that_do_not_leave_the_call(self):
        def act(book):
            book.do(("in", "main", (0,), PUT))
            try:
                book.do(("out", "main", (99,)))
            except Refused:
                return "went on"

        self.assertEqual(self.book.block(act), "went on")
        self.assertEqual(len(self.book), 2)

    def test_deeds_undone_and_done_again_within(self):
        want = self.stands()

        def act(book):
            book.back()
            with_none = len(book)
            book.again()
            book.again()
            return (with_none, len(book))

        self.assertEqual(self.book.block(act), (0, 2))
        self.book.back()
        self.assertEqual(self.stands(), want)

        def fail(book):
            book.back()
            book.again()
            book.again()
            book.again()

        with self.assertRaises(Nothing):
            self.book.block(fail)
        self.assertEqual(self.stands(), want)

    def test_blocks_within_blocks(self):
        def inner(book):
            book.do(("in", "main", (0,), PUT))
            raise KeyError("inner")

        def outer(book):
            book.do(("gone", "f"))
            middle = (book.log(), book.program())
            try:
                book.block(inner)
            except KeyError:
                pass
            self.assertEqual((book.log(), book.program()), middle)
            book.block(lambda same: same.do(("in", "main", (0,), LOOP)))
            return len(book)

        want = self.stands()
        self.assertEqual(self.book.block(outer), 3)
        for _ in range(2):
            self.book.back()
        self.assertEqual(self.stands()[:2], want[:2])

        def failing(book):
            outer(book)
            raise Full(1)

        want = self.stands()
        with self.assertRaises(Full):
            self.book.block(failing)
        self.assertEqual(self.stands(), want)

    def test_what_is_no_callable(self):
        want = self.stands()
        with self.assertRaises(TypeError):
            self.book.block(None)
        self.assertEqual(self.stands(), want)


if __name__ == "__main__":
    unittest.main()
