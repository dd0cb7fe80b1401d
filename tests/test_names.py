"""If functions and names are renamed such that their order stays, the results are renamed likewise [13]."""
import random
import unittest

from sparetails.book import Book
from sparetails.errors import TailError, TooMany, Unlike
from sparetails.growings import by_spare_room, plain_growings
from sparetails.machine import Machine
from sparetails.moments import row_of, run_to
from sparetails.needless import lean, left_out, needless
from sparetails.notation import read_log, read_program, show_deed, show_log, show_program
from sparetails.places import all_places, statement_at, ways
from sparetails.programs import Program
from sparetails.repairs import cheapest, idle, is_repair_paper, open_places, repair_paper, repaired, repairs
from sparetails.runs import looks, shared, walk, wrong_look
from sparetails.spoilings import fewest_steps, first_spoiling, is_plain, spoilings
from sparetails.standing import bar, outcomes, with_calls
from sparetails.statements import bodies, copying, made, named, read, sharing
from sparetails.steps import behind, begin_row, called, followers, spoiled
from sparetails.tables import Table, is_closed
from sparetails.watching import alive, are_watched_rows, passed, watched, watched_rows
from sparetails.ways import is_way_to_look, steps_to_end, steps_to_look, steps_to_result, way_to_look
from sparetails.wrongruns import is_wrong_run, seen_wrong, wrong_run
from tests.drawing import dense_program, drawn_machine, drawn_program
from tests.test_book import drawn_deed

NEWER = {"p": "aa", "q": "ab", "r": "kkkkkkkk", "s": "zz"}
# "main" keeps its name, so the others have to stay on their sides of it.
CALLED = {"f": "bb", "g": "lz", "main": "main"}


def renamed(statement):
    if statement[0] == "loop":
        return ("loop", [renamed(item) for item in statement[1]])
    if statement[0] == "either":
        return ("either", [[renamed(item) for item in body] for body in statement[1]])
    if statement[0] == "call":
        return ("call", NEWER[statement[1]], CALLED[statement[2]], tuple(NEWER[name] for name in statement[3]))
    return (statement[0], *[NEWER[name] for name in statement[1:]])


def renamed_program(program):
    told = program.functions()
    return Program({
        CALLED[name]: ([NEWER[one] for one in parameters], [renamed(item) for item in body], NEWER[result])
        for name, (parameters, body, result) in told.items()
    })


def renamed_place(place):
    return None if place is None else (CALLED[place[0]], place[1])


def renamed_windows(windows):
    return {NEWER[name]: window for name, window in windows.items()}


def renamed_names(names):
    return [NEWER[name] for name in names]


def renamed_shape(shape):
    """The shape with the newer names; these stand in the same order, but perhaps otherwise beside other points."""
    return tuple(sorted(tuple(tuple(sorted(NEWER.get(point, point) for point in level)) for level in order) for order in shape))


def renamed_row(row):
    return (CALLED[row[0]], row[1], row[2], renamed_shape(row[3]))


def renamed_repair(repair):
    return tuple(renamed_place(place) for place in repair)


def renamed_victim(told):
    """A tuple whose last three are a function, an address and a victim."""
    *first, function, address, victim = told
    return (*first, CALLED[function], address, NEWER.get(victim, victim))


def renamed_function(told):
    parameters, body, result = told
    return ([NEWER[one] for one in parameters], [renamed(item) for item in body], NEWER[result])


def renamed_deed(deed):
    word, name = deed[:2]
    if word == "function":
        return (word, CALLED[name], renamed_function(deed[2]))
    more = (deed[2], renamed(deed[3])) if len(deed) == 4 else deed[2:]
    return (word, CALLED[name], *more)


class Names(unittest.TestCase):
    def setUp(self):
        source = random.Random(13)
        self.drawn = [drawn_program(source) for _ in range(200)]

    def test_programs(self):
        for program in self.drawn:
            other = renamed_program(program)
            self.assertEqual(list(other.functions()), [CALLED[name] for name in program.functions()])
            self.assertEqual(other.reached(), [CALLED[name] for name in program.reached()])
            for name in program.functions():
                self.assertEqual(other.names(CALLED[name]), [NEWER[one] for one in program.names(name)])
                self.assertEqual(other.parameters(CALLED[name]), [NEWER[one] for one in program.parameters(name)])
                self.assertEqual(other.calls(CALLED[name]), [CALLED[one] for one in program.calls(name)])
                self.assertEqual(other.result(CALLED[name]), NEWER[program.result(name)])

    def test_statements(self):
        for program in self.drawn:
            for _, body, _ in program.functions().values():
                for item in body:
                    other = renamed(item)
                    self.assertEqual(read(other), [NEWER[name] for name in read(item)])
                    self.assertEqual(named(other), [NEWER[name] for name in named(item)])
                    self.assertEqual(made(other), NEWER.get(made(item)))
                    self.assertEqual(bodies(other), [[renamed(one) for one in inner] for inner in bodies(item)])
                    for asked in (copying, sharing):
                        want = asked(item)
                        self.assertEqual(asked(other), None if want is None else renamed(want))

    def test_places(self):
        for program in self.drawn:
            other = renamed_program(program)
            self.assertEqual(all_places(other), [renamed_place(place) for place in all_places(program)])
            for place in all_places(program):
                statement = statement_at(program, place)
                want = None if statement is None else renamed(statement)
                self.assertEqual(statement_at(other, renamed_place(place)), want)
                self.assertEqual(ways(other, renamed_place(place)), [renamed_place(way) for way in ways(program, place)])

    def test_machines(self):
        source = random.Random(131)
        for program in self.drawn:
            machine = drawn_machine(source, program, "spare", 40)
            growing, begins, data = machine.run()
            other = Machine(renamed_program(program), growing, begins)
            for told in data:
                other.step(told)
            self.assertEqual(other.calls(), [(renamed_place(place), renamed_windows(held))
                                             for place, held in machine.calls()])
            self.assertEqual(other.looks(), [(renamed_place(place), *told) for place, *told in machine.looks()])
            self.assertEqual((other.store(), other.wanted()), (machine.store(), machine.wanted()))

    def test_runs(self):
        source = random.Random(132)
        for program in self.drawn[:100]:
            run = drawn_machine(source, program, "exact", 40).run()
            other = renamed_program(program)
            self.assertEqual(list(walk(other, run)), [renamed_place(place) for place in walk(program, run)])
            self.assertEqual(looks(other, run), [(renamed_place(place), *told) for place, *told in looks(program, run)])
            self.assertEqual(wrong_look(other, run), wrong_look(program, run))
            self.assertEqual(shared(other, run), [renamed_names(names) for names in shared(program, run)])

    def test_ways(self):
        for program in self.drawn[:60]:
            other = renamed_program(program)
            for place in all_places(program):
                there = renamed_place(place)
                self.assertEqual(steps_to_end(other, there), steps_to_end(program, place))
                for name in program.names(place[0]):
                    for asked in (steps_to_look, steps_to_result):
                        self.assertEqual(asked(other, there, NEWER[name]), asked(program, place, name))
                    way = way_to_look(program, place, name)
                    if way is not None:
                        way = [renamed_place(one) for one in way]
                        self.assertIs(is_way_to_look(other, there, NEWER[name], way), True)

    def test_watching(self):
        for program in self.drawn[:100]:
            other = renamed_program(program)
            for place in all_places(program):
                self.assertEqual(alive(other, renamed_place(place)), renamed_names(alive(program, place)))
                for told in (False, True):
                    self.assertEqual(watched(other, renamed_place(place), told), renamed_names(watched(program, place, told)))
            for function in program.functions():
                self.assertEqual(passed(other, CALLED[function], True), passed(program, function, True))
            rows = [(CALLED[f], b, a, tuple(renamed_names(names))) for f, b, a, names in watched_rows(program)]
            self.assertEqual(watched_rows(other), rows)
            self.assertIs(are_watched_rows(other, rows), True)

    def test_needless(self):
        for program in self.drawn[:100]:
            other = renamed_program(program)
            places = needless(program)
            self.assertEqual(needless(other), [renamed_place(place) for place in places])
            self.assertEqual(left_out(other, needless(other)), renamed_program(left_out(program, places)))
            self.assertEqual(lean(other), renamed_program(lean(program)))

    def test_tables(self):
        source = random.Random(133)
        rows_seen = 0
        while rows_seen < 600:
            program = dense_program(source, ("p", "r", "s"))
            other = renamed_program(program)
            try:
                table = Table(program, "spare", most=150)
            except TooMany:
                continue
            newer = Table(other, "spare", most=150)
            self.assertEqual(newer.rows(), sorted(map(renamed_row, table.rows())))
            self.assertEqual(newer.spoiling(), sorted(map(renamed_row, table.spoiling())))
            self.assertEqual(newer.entries(), [(CALLED[function], entry) for function, entry in table.entries()])
            self.assertIs(is_closed(other, "spare", newer.rows()), is_closed(program, "spare", table.rows()))
            for row in table.rows():
                there = renamed_row(row)
                self.assertEqual(newer.cost(there), table.cost(row))
                self.assertEqual(followers(other, "spare", there), sorted(map(renamed_row, followers(program, "spare", row))))
                self.assertEqual(spoiled(other, "spare", there), sorted(NEWER.get(one, one) for one in spoiled(program, "spare", row)))
                statement = statement_at(program, (row[0], row[2]))
                if statement is not None and statement[0] == "call":
                    function, entry = called(program, row)
                    self.assertEqual(called(other, there), (CALLED[function], entry))
                    self.assertEqual(begin_row(other, CALLED[function], entry), renamed_row(begin_row(program, function, entry)))
                    for end in table.ends(function, entry):
                        self.assertEqual(behind(other, there, renamed_row(end)), sorted(map(renamed_row, behind(program, row, end))))
            rows_seen += len(table)

    def small_programs(self, seed, many, most=150, names=("p", "r", "s")):
        """Programs with tables that are not great, and these renamed."""
        source = random.Random(seed)
        found = []
        while len(found) < many:
            program = dense_program(source, names)
            try:
                for growing in ("exact", "spare"):
                    Table(program, growing, most=most)
            except TooMany:
                continue
            found.append((program, renamed_program(program)))
        return found

    def test_moments_spoilings_and_wrong_runs(self):
        source = random.Random(134)
        for program, other in self.small_programs(135, 40):
            for growing in ("exact", "spare"):
                self.assertEqual(spoilings(other, growing), sorted(map(renamed_victim, spoilings(program, growing))))
                self.assertIs(is_plain(other, growing), is_plain(program, growing))
                self.assertEqual(fewest_steps(other, growing), fewest_steps(program, growing))
                run = drawn_machine(source, program, growing, 30).run()
                told, row = first_spoiling(program, run), row_of(program, run)
                self.assertEqual(first_spoiling(other, run), None if told is None else renamed_victim(told))
                self.assertEqual(row_of(other, run), None if row is None else renamed_row(row))
                self.assertEqual(seen_wrong(other, run), seen_wrong(program, run))
                wrong = wrong_run(program, growing)
                if wrong is not None:
                    self.assertIs(is_wrong_run(other, growing, wrong), True)
                    self.assertIs(is_wrong_run(program, growing, wrong_run(other, growing)), True)
                for row in Table(program, growing).rows()[::9]:
                    to = run_to(other, growing, renamed_row(row))
                    self.assertEqual(row_of(program, to), row)
            self.assertEqual(plain_growings(other), plain_growings(program))
            self.assertIs(by_spare_room(other) is None, by_spare_room(program) is None)

    def test_repairs(self):
        done = 0
        for program, other in self.small_programs(136, 200, 60):
            self.assertEqual(open_places(other), list(renamed_repair(open_places(program))))
            if len(open_places(program)) > 6 or is_plain(program, "spare"):
                continue
            done += 1
            told = repairs(program, "spare")
            self.assertEqual(repairs(other, "spare"), [renamed_repair(repair) for repair in told])
            prices = {place: at % 3 for at, place in enumerate(all_places(program))}
            cheap = cheapest(program, "spare", prices)
            newer = {renamed_place(place): price for place, price in prices.items()}
            self.assertEqual(cheapest(other, "spare", newer), cheap and (cheap[0], [renamed_repair(repair) for repair in cheap[1]]))
            goods, bads = repair_paper(program, "spare")
            bads = [(renamed_repair(repair), run) for repair, run in bads]
            self.assertIs(is_repair_paper(other, "spare", [renamed_repair(good) for good in goods], bads), True)
            for repair in told:
                self.assertEqual(repaired(other, renamed_repair(repair)), renamed_program(repaired(program, repair)))
                self.assertEqual(idle(repaired(other, renamed_repair(repair)), "spare"),
                                 list(renamed_repair(idle(repaired(program, repair), "spare"))))
        self.assertGreater(done, 10)

    def test_standing(self):
        done = 0
        for program, other in self.small_programs(137, 120, 60, ("r", "s")):
            for function, entry in Table(program, "spare").entries():
                if function != "main":
                    self.assertEqual(outcomes(other, "spare", CALLED[function], entry), outcomes(program, "spare", function, entry))
            if len(program.functions()) == 3 and done < 8:
                try:
                    told = bar(program, "f", "g", "exact")
                    self.assertEqual(bar(other, CALLED["f"], CALLED["g"], "exact"), told)
                    done += 1
                    self.assertEqual(with_calls(other, CALLED["g"], CALLED["f"]), renamed_program(with_calls(program, "g", "f")))
                except (TailError, Unlike):
                    continue
        self.assertGreater(done, 3)

    def test_books_and_texts(self):
        source = random.Random(138)
        done = 0
        for _ in range(40):
            program = drawn_program(source, most=6)
            book, other = Book(program), Book(renamed_program(program))
            for _ in range(10):
                deed = drawn_deed(source, book.program())
                if deed[1] not in CALLED:
                    continue
                self.assertIs(other.tried(renamed_deed(deed)), book.tried(deed))
                if book.tried(deed):
                    self.assertEqual(list(other.do(renamed_deed(deed))), [renamed_place(place) for place in book.do(deed)])
                    self.assertEqual(other.program(), renamed_program(book.program()))
                    self.assertEqual(show_deed(other.log()[-1]), show_deed(renamed_deed(book.log()[-1])))
                    done += 1
            self.assertEqual(other.log(), [renamed_deed(deed) for deed in book.log()])
            self.assertEqual(read_log(renamed_program(program), show_log(other)), other)
            self.assertEqual(read_program(show_program(other.program())), renamed_program(book.program()))
        self.assertGreater(done, 100)


if __name__ == "__main__":
    unittest.main()
