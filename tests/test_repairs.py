"""Repairs [90], [10]."""
import copy
import itertools
import random
import unittest

from sparetails.errors import NoPlace, TooMany
from sparetails.places import all_places, statement_at
from sparetails.programs import Program
from sparetails.repairs import cheapest, idle, is_repair_paper, open_places, repair_paper, repaired, repairs
from sparetails.spoilings import is_plain
from sparetails.statements import copying
from sparetails.tables import Table
from sparetails.wrongruns import is_wrong_run
from tests.drawing import PUT, STRANGE, at, dense_program, drawn_program, has_a_list_twice, in_f, listed_run, main, share_a_list, spoil

GROWINGS = ("exact", "spare")
GROWN = main([PUT, ("take", "t", "s"), ("put", "t", "t"), PUT, ("look", "t")])
TOOK = main([("take", "t", "s"), ("cut", "u", "t"), ("set", "u"), ("look", "s"), ("look", "t"), ("look", "u")])
PLAIN = main([("take", "t", "s"), PUT, ("look", "s"), ("look", "t")])
# Whatever copies, the store has what is set behind.
HOPELESS = main([("take", "t", "s"), ("keep", "s"), ("set", "s"), ("look", "t")])
UNCALLED = main([("take", "t", "s"), ("set", "t"), ("look", "s")], f=(
    ["p"], [("loop", [("cut", "q", "p"), ("copy", "r", "q")]), ("copyput", "q", "q")], "q"))


def nine(many, **others):
    """A program with so many open places."""
    return main([("take", "t", "s")] * many + [("set", "t"), ("look", "s")], **others)


def subsets(places):
    return [told for many in range(len(places) + 1) for told in itertools.combinations(places, many)]


class Repaired(unittest.TestCase):
    def test_copies(self):
        self.assertEqual(repaired(GROWN, (at(1),)), main([PUT, ("copy", "t", "s"), ("put", "t", "t"), PUT, ("look", "t")]))
        self.assertEqual(repaired(GROWN, (at(0), at(2), at(3))),
                         main([("copyput", "s", "s"), ("take", "t", "s"), ("copyput", "t", "t"), ("copyput", "s", "s"), ("look", "t")]))
        self.assertEqual(repaired(GROWN, ()), GROWN)

    def test_within_bodies_and_functions_that_are_not_called(self):
        program = main([("either", [[("look", "s")], [("loop", [("cut", "t", "s")])]])], f=(["p"], [("loop", [("take", "q", "p")])], "q"))
        self.assertEqual(repaired(program, (("f", (0, 0, 0)), at(0, 1, 0, 0, 0))),
                         main([("either", [[("look", "s")], [("loop", [("copycut", "t", "s")])]])], f=(["p"], [("loop", [("copy", "q", "p")])], "q")))

    def test_each_place_of_drawn_programs(self):
        source = random.Random(90)
        for _ in range(120):
            program = drawn_program(source)
            good = [place for place in all_places(program) if (statement_at(program, place) or ("end",))[0] in ("take", "cut", "put")]
            chosen = tuple(place for place in good if source.random() < 0.5)
            told = repaired(program, chosen)
            self.assertEqual(all_places(told), all_places(program))
            for place in all_places(program):
                statement = statement_at(program, place)
                if statement is not None and statement[0] not in ("either", "loop"):
                    want = copying(statement) if place in chosen else statement
                    self.assertEqual(statement_at(told, place), want)
            for place in all_places(program):
                if place not in good:
                    self.refused(program, (*chosen, place), place)

    def refused(self, program, repair, place):
        with self.assertRaises(NoPlace) as caught:
            repaired(program, repair)
        self.assertIs(caught.exception.place, place)

    def test_the_first_place_that_is_none(self):
        end, look, none = at(5), at(4), at(9)
        for places in itertools.permutations((end, look, none)):
            self.refused(GROWN, (at(0), *places), places[0])
            self.refused(GROWN, (*places, at(0)), places[0])

    def test_what_is_no_place(self):
        program = main([("copy", "t", "s"), ("copycut", "t", "s"), ("copyput", "t", "s"), ("loop", [("take", "t", "s")]), ("new", "s"),
                        ("call", "t", "f", ()), ("set", "s"), ("keep", "s")], f=([], [], "p"))
        self.assertEqual(len(open_places(program)), 1)
        for place in [at(k) for k in range(9)] + [at(3, 0), at(3, 0, 1), at(3, 1, 0), ("g", (0,)), ("f", (0,)), at(True), at(), at(3, 0, False),
                                                  at(-1), ("main", [0]), ["main", (0,)], ("main",), None, 5, "main", (), ("main", (0,), 1)]:
            if place != at(3, 0, 0):
                self.refused(program, (place,), place)


class OpenPlaces(unittest.TestCase):
    def test_functions_that_main_does_not_call(self):
        self.assertEqual(open_places(UNCALLED), [at(0)])
        self.assertEqual(repaired(UNCALLED, (in_f(0, 0, 0),)).functions()["f"][1][0], ("loop", [("copycut", "q", "p"), ("copy", "r", "q")]))
        program = main([("call", "s", "g", ())], f=([], [("put", "p", "p")], "p"), g=([], [("cut", "p", "p"), ("copycut", "p", "p")], "p"))
        self.assertEqual(open_places(program), [("g", (0,))])

    def test_functions_that_are_called_by_others(self):
        program = main([("loop", [("call", "s", "g", ())])], f=([], [PUT], "s"), g=([], [("either", [[("call", "s", "f", ())], []])], "s"))
        self.assertEqual(open_places(program), [in_f(0)])

    def test_drawn_programs(self):
        source = random.Random(901)
        for _ in range(150):
            program = drawn_program(source)
            want = [place for place in all_places(program) if place[0] in program.reached()
                    and (statement_at(program, place) or ("end",))[0] in ("take", "cut", "put")]
            first = open_places(program)
            self.assertEqual(first, want)
            spoil(first)
            self.assertEqual(open_places(program), want)

    def test_none(self):
        self.assertEqual(open_places(main([])), [])
        self.assertEqual(open_places(main([("look", "s"), ("copyput", "s", "s")])), [])


class Repairs(unittest.TestCase):
    def check(self, program, growing):
        """Compares with a look at each set of open places; returns the number of least repairs."""
        places = open_places(program)
        plain = {told: is_plain(repaired(program, told), growing, most=4000) for told in subsets(places)}
        for one, other in itertools.product(plain, plain):
            # More repair keeps a plain program plain.
            if set(one) <= set(other):
                self.assertTrue(plain[other] or not plain[one])
        goods = [one for one in plain if plain[one] and not any(plain[other] and set(other) < set(one) for other in plain)]
        bads = [one for one in plain if not plain[one] and all(plain[other] for other in plain if set(one) < set(other))]
        self.assertEqual(repairs(program, growing, most=4000), sorted(goods))
        paper = repair_paper(program, growing, most=4000)
        self.assertEqual(paper[0], sorted(goods))
        self.assertEqual([repair for repair, _ in paper[1]], sorted(bads))
        for repair, run in paper[1]:
            self.assertIs(is_wrong_run(repaired(program, repair), growing, run), True)
        self.assertIs(is_repair_paper(program, growing, *paper, most=4000), True)
        self.prices(program, growing, plain, sorted(goods))
        return len(goods)

    def prices(self, program, growing, plain, goods):
        source = random.Random(len(goods))
        for _ in range(3):
            prices = {place: source.choice([0, 1, 2, 3, 10 ** 39]) for place in all_places(program) if source.random() < 0.7}
            sums = {one: sum(prices.get(place, 1) for place in one) for one in plain if plain[one]}
            least = min(sums.values(), default=None)
            want = None if least is None else (least, [one for one in goods if sums[one] == least])
            self.assertEqual(cheapest(program, growing, prices, most=4000), want)

    def test_programs(self):
        for program, growing, many in ((GROWN, "spare", 3), (GROWN, "exact", 1), (TOOK, "spare", 1), (PLAIN, "spare", 1), (HOPELESS, "exact", 0),
                                       (UNCALLED, "exact", 1), (main([]), "exact", 1), (main([("keep", "s"), ("set", "s")]), "spare", 0)):
            self.assertEqual(self.check(program, growing), many)

    def test_drawn_programs(self):
        source = random.Random(902)
        found = {}
        while sum(found.values()) < 50 or len(found) < 4:
            program = dense_program(source, source.choice([("r", "s"), ("p", "r", "s")]))
            if len(open_places(program)) > 6:
                continue
            for growing in GROWINGS:
                try:
                    if is_plain(program, growing, most=150):
                        continue
                except TooMany:
                    continue
                many = self.check(program, growing)
                found[many] = found.get(many, 0) + 1

    def test_by_hand(self):
        self.assertEqual(repairs(GROWN, "spare"), [(at(1),), (at(2),), (at(3),)])
        self.assertEqual(repairs(GROWN, "exact"), [()])
        self.assertEqual(repairs(TOOK, "exact"), [(at(1),)])
        self.assertEqual(repairs(HOPELESS, "exact"), [])
        self.assertEqual(repairs(main([]), "spare"), [()])

    def test_one_and_eight_open_places(self):
        self.assertEqual(repairs(nine(1), "exact"), [(at(0),)])
        self.assertEqual(repairs(nine(8), "exact"), [(at(7),)])
        goods, bads = repair_paper(nine(8), "exact")
        self.assertEqual((goods, [repair for repair, _ in bads]), ([(at(7),)], [tuple(at(k) for k in range(7))]))
        self.assertIs(is_repair_paper(nine(8), "exact", goods, bads), True)
        chain = main([("take", "b", "a"), ("take", "c", "b"), ("take", "d", "c"), ("cut", "e", "d"), ("cut", "f", "e"), ("take", "g", "f"),
                      ("cut", "h", "g"), ("take", "i", "h"), ("set", "i"), ("look", "a")], "a")
        self.assertEqual(repairs(chain, "spare"), [(at(k),) for k in range(8)])
        self.assertEqual(cheapest(chain, "spare", {at(k): k for k in range(1, 8)}), (1, [(at(0),), (at(1),)]))

    def test_nine_open_places(self):
        for program in (nine(9), nine(9, f=(["p"], [], "p")), nine(40)):
            for most in (1, 2, 1000, 4000):
                for asked in (lambda: repairs(program, "exact", most=most), lambda: cheapest(program, "exact", {}, most=most),
                              lambda: repair_paper(program, "exact", most=most), lambda: is_repair_paper(program, "exact", [], [], most=most),
                              lambda: is_repair_paper(program, "exact", [(at(8),)], [], most=most),
                              lambda: is_repair_paper(program, "spare", None, 7, most=most)):
                    with self.assertRaises(TooMany) as caught:
                        asked()
                    self.assertEqual(caught.exception.limit, 8)
        self.assertEqual(idle(nine(9), "exact"), [])
        self.assertEqual(repairs(nine(1, f=(["p"], [("take", "p", "p")] * 9, "p")), "exact"), [(at(0),)])

    def test_most_of_the_program_itself(self):
        for program in (GROWN, TOOK, PLAIN, HOPELESS):
            for growing in GROWINGS:
                many = len(Table(program, growing))
                for asked in (repairs, repair_paper, idle, lambda *told, most: cheapest(*told, {}, most=most)):
                    with self.assertRaises(TooMany) as caught:
                        asked(program, growing, most=many - 1)
                    self.assertEqual(caught.exception.limit, many - 1)

    def test_most_of_those_that_have_to_be_looked_at(self):
        for program, growing in ((GROWN, "spare"), (TOOK, "exact"), (HOPELESS, "spare"), (PLAIN, "spare")):
            goods, bads = repair_paper(program, growing)
            needed = max(len(Table(repaired(program, told), growing)) for told in [(), *goods, *[bad for bad, _ in bads]])
            self.assertEqual(repairs(program, growing, most=needed), goods)
            self.assertEqual(repair_paper(program, growing, most=needed), (goods, bads))
            with self.assertRaises(TooMany) as caught:
                repairs(program, growing, most=needed - 1)
            self.assertEqual(caught.exception.limit, needed - 1)

    def test_a_plain_program_needs_no_other_look(self):
        many = len(Table(PLAIN, "spare"))
        self.assertEqual(repairs(PLAIN, "spare", most=many), [()])
        self.assertEqual(repair_paper(PLAIN, "spare", most=many), ([()], []))
        self.assertEqual(cheapest(PLAIN, "spare", {at(0): 0}, most=many), (0, [()]))

    def test_prices(self):
        self.assertEqual(cheapest(TOOK, "exact", {}), (1, [(at(1),)]))
        self.assertEqual(cheapest(TOOK, "exact", {at(1): 0}), (0, [(at(1),)]))
        great = 10 ** 40 - 1
        self.assertEqual(cheapest(TOOK, "exact", {at(1): great}), (great, [(at(1),)]))
        self.assertEqual(cheapest(TOOK, "exact", {at(0): 5, at(7): 0, ("g", (0,)): 0, at(3): 0}), (1, [(at(1),)]))
        self.assertIsNone(cheapest(HOPELESS, "exact", {at(0): 0}))
        self.assertEqual(cheapest(PLAIN, "spare", {}), (0, [()]))
        told = repairs(GROWN, "spare")
        for chosen in told:
            prices = {place: 10 ** 20 for one in told for place in one if place not in chosen}
            self.assertEqual(cheapest(GROWN, "spare", prices), (len(chosen), [chosen]))
        many = cheapest(GROWN, "spare", {place: 0 for place in open_places(GROWN)})
        self.assertEqual(many, (0, told))

    def test_prices_stay(self):
        prices = {at(1): 3, at(0): 2}
        cheapest(TOOK, "exact", prices)
        self.assertEqual(prices, {at(1): 3, at(0): 2})

    def test_lists_changed_afterwards(self):
        for asked in (lambda: repairs(GROWN, "spare"), lambda: repair_paper(GROWN, "spare"), lambda: cheapest(GROWN, "spare", {}),
                      lambda: idle(repaired(PLAIN, (at(0),)), "spare"), lambda: repair_paper(HOPELESS, "spare")):
            first = asked()
            want = copy.deepcopy(first)
            self.assertFalse(share_a_list(first, asked()) or has_a_list_twice(first))
            spoil(first)
            self.assertEqual(asked(), want)


class Papers(unittest.TestCase):
    def setUp(self):
        self.program = main([("take", "t", "s"), ("take", "u", "t"), ("set", "u"), ("look", "s"), ("cut", "v", "s"), ("put", "v", "v"), ("look", "s")])
        self.goods, self.bads = repair_paper(self.program, "spare")

    def told(self, goods, bads, **more):
        return is_repair_paper(self.program, "spare", goods, bads, **more)

    def test_the_paper(self):
        self.assertEqual(self.goods, [(at(0), at(4)), (at(0), at(5)), (at(1), at(4)), (at(1), at(5))])
        self.assertEqual([repair for repair, _ in self.bads], [(at(0), at(1)), (at(4), at(5))])
        self.assertIs(self.told(self.goods, self.bads), True)

    def test_in_any_order_and_twice(self):
        self.assertIs(self.told(self.goods[::-1], self.bads[::-1]), True)
        self.assertIs(self.told(self.goods * 2, self.bads * 2), True)

    def test_a_set_out(self):
        for k in range(len(self.goods)):
            self.assertIs(self.told(self.goods[:k] + self.goods[k + 1:], self.bads), False)
        for k in range(len(self.bads)):
            self.assertIs(self.told(self.goods, self.bads[:k] + self.bads[k + 1:]), False)
        self.assertIs(self.told([], self.bads), False)
        self.assertIs(self.told(self.goods, []), False)
        self.assertIs(self.told([], []), False)

    def test_more_than_need_be(self):
        self.assertIs(self.told(self.goods + [(at(0), at(1), at(4))], self.bads), True)
        run = self.bads[0][1]
        self.assertIs(self.told(self.goods, self.bads + [((at(0),), run)]),
                      is_wrong_run(repaired(self.program, (at(0),)), "spare", run))
        self.assertIs(self.told(self.goods, self.bads + [((), run)]), is_wrong_run(self.program, "spare", run))

    def test_one_that_is_not_enough(self):
        for repair in ((), (at(0),), (at(0), at(1)), (at(4), at(5))):
            self.assertIs(self.told(self.goods + [repair], self.bads), False)
            self.assertIs(self.told([repair] + self.goods, self.bads), False)

    def test_runs_otherwise(self):
        (first, run), (second, other) = self.bads
        for told in (other, (*run[:2], run[2][:-1]), ("exact", *run[1:]), (run[0], run[1], ()), (run[0], run[1][:-1], run[2]), list(run), None, (), run[2]):
            want = told == listed_run(run)
            self.assertIs(self.told(self.goods, [(first, told), (second, other)]), want, told)
        self.assertIs(self.told(self.goods, [(first, listed_run(run)), (second, other)]), True)

    def test_runs_of_another_program(self):
        run = self.bads[0][1]
        self.assertIs(self.told(self.goods, [(repair, run) for repair, _ in self.bads]), False)

    def test_places_turned_about(self):
        self.assertIs(self.told([good[::-1] for good in self.goods], self.bads), False)
        self.assertIs(self.told(self.goods, [(repair[::-1], run) for repair, run in self.bads]), False)
        self.assertIs(self.told(self.goods + [(at(0), at(0), at(4))], self.bads), False)

    def test_lists_for_tuples(self):
        self.assertIs(self.told(tuple(self.goods), self.bads), False)
        self.assertIs(self.told(self.goods, tuple(self.bads)), False)
        self.assertIs(self.told([list(good) for good in self.goods], self.bads), False)
        self.assertIs(self.told(self.goods, [list(bad) for bad in self.bads]), False)
        self.assertIs(self.told(self.goods, [(list(repair), run) for repair, run in self.bads]), False)
        self.assertIs(self.told([tuple(list(place) for place in good) for good in self.goods], self.bads), False)
        self.assertIs(self.told([tuple((place[0], list(place[1])) for place in good) for good in self.goods], self.bads), False)

    def test_truths_in_addresses(self):
        self.assertIs(self.told([(at(False), at(4)), *self.goods[1:]], self.bads), False)
        self.assertIs(self.told(self.goods, [((at(False), at(True)), self.bads[0][1]), self.bads[1]]), False)

    def test_places_that_are_none_and_that_are_not_open(self):
        for place in (at(2), at(7), at(9), ("f", (0,))):
            self.assertIs(self.told(self.goods + [(at(0), at(4), place)], self.bads), False)
        goods, bads = repair_paper(UNCALLED, "exact")
        self.assertEqual((goods, bads[0][0]), ([(at(0),)], ()))
        self.assertIs(is_repair_paper(UNCALLED, "exact", goods + [(in_f(0, 0, 0), at(0))], bads), True)
        self.assertIs(is_repair_paper(UNCALLED, "exact", goods, [((in_f(0, 0, 0),), bads[0][1])]), True)
        self.assertIs(is_repair_paper(UNCALLED, "exact", [(in_f(0, 0, 0), at(0))], bads), False)

    def test_any_value(self):
        for thing in STRANGE + (self.program, (self.goods, self.bads)):
            self.assertIs(self.told(thing, self.bads), False)
            self.assertIs(self.told(self.goods, thing), False)
            self.assertIs(self.told(self.goods + [thing], self.bads), False)
            self.assertIs(self.told(self.goods, self.bads + [thing]), False)
            self.assertIs(self.told(self.goods, self.bads + [(thing, self.bads[0][1])]),
                          thing == () and type(thing) is tuple and is_wrong_run(self.program, "spare", self.bads[0][1]))
            self.assertIs(self.told(self.goods, self.bads + [(self.bads[0][0], thing)]), False)

    def test_a_plain_program(self):
        self.assertIs(is_repair_paper(PLAIN, "spare", [()], []), True)
        self.assertIs(is_repair_paper(PLAIN, "spare", [], []), False)
        self.assertIs(is_repair_paper(PLAIN, "spare", [(at(0),)], []), False)
        self.assertIs(is_repair_paper(main([]), "spare", [()], []), True)

    def test_another_growing(self):
        self.assertIs(is_repair_paper(self.program, "exact", self.goods, self.bads), False)

    def test_most(self):
        needed = max(len(Table(repaired(self.program, good), "spare")) for good in self.goods)
        self.assertIs(self.told(self.goods, self.bads, most=needed), True)
        with self.assertRaises(TooMany) as caught:
            self.told(self.goods, self.bads, most=needed - 1)
        self.assertEqual(caught.exception.limit, needed - 1)
        # What is no paper by itself needs no table.
        self.assertIs(self.told(self.goods[1:], self.bads, most=1), False)
        self.assertIs(self.told(self.goods, None, most=1), False)

    def test_goods_and_bads_stay(self):
        kept = copy.deepcopy((self.goods, self.bads))
        self.told(self.goods, self.bads)
        self.assertEqual((self.goods, self.bads), kept)


class Idle(unittest.TestCase):
    def test_copies_that_are_not_needed(self):
        program = main([("copy", "t", "s"), ("copyput", "s", "s"), ("copycut", "u", "t"), ("set", "t"), ("look", "s"), ("look", "u"), ("look", "t")])
        self.assertEqual(idle(program, "exact"), [at(0), at(1)])

    def test_each_alone(self):
        program = main([("copy", "t", "s"), ("copy", "u", "t"), ("set", "u"), ("look", "s"), ("look", "u")])
        self.assertEqual(idle(program, "spare"), [at(0), at(1)])
        self.assertIs(is_plain(main([("take", "t", "s"), ("take", "u", "t"), ("set", "u"), ("look", "s"), ("look", "u")]), "spare"), False)

    def test_programs_that_are_not_plain(self):
        self.assertEqual(idle(main([("copy", "t", "s"), ("take", "u", "s"), ("set", "u"), ("look", "s")]), "exact"), [])
        self.assertEqual(idle(GROWN, "spare"), [])

    def test_functions_that_are_not_called(self):
        program = main([("copy", "t", "s")], f=(["p"], [("loop", [("copycut", "p", "p")]), ("copyput", "p", "p"), ("look", "p")], "p"))
        self.assertEqual(idle(program, "exact"), [("f", (0, 0, 0)), ("f", (1,)), at(0)])
        self.assertEqual(idle(repaired(UNCALLED, (at(0),)), "exact"), [("f", (0, 0, 1)), ("f", (1,))])

    def test_none(self):
        self.assertEqual((idle(main([]), "exact"), idle(PLAIN, "spare")), ([], []))

    def test_the_growing(self):
        program = main([PUT, ("copy", "t", "s"), ("put", "t", "t"), PUT, ("look", "t")])
        self.assertEqual((idle(program, "exact"), idle(program, "spare")), ([at(1)], []))

    def test_more_than_eight(self):
        program = main([("copy", "t", "s")] * 12)
        self.assertEqual(idle(program, "exact"), [at(k) for k in range(12)])
        program = main([("take", "t", "s")] * 11 + [("copy", "t", "s")])
        self.assertEqual(idle(program, "exact"), [at(11)])

    def test_drawn_programs(self):
        source = random.Random(903)
        found = 0
        while found < 60:
            program = drawn_program(source, names=("p", "r", "s"))
            growing = source.choice(GROWINGS)
            told = idle(program, growing, most=4000)
            if not is_plain(program, growing, most=4000):
                self.assertEqual(told, [])
                continue
            for place in all_places(program):
                statement = statement_at(program, place)
                if statement is not None and statement[0] in ("copy", "copycut", "copyput"):
                    functions = program.functions()
                    body = functions[place[0]][1]
                    for k, b in zip(place[1][:-1:2], place[1][1::2]):
                        body = (body[k][1] if body[k][0] == "either" else [body[k][1]])[b]
                    word = {"copy": "take", "copycut": "cut", "copyput": "put"}[statement[0]]
                    body[place[1][-1]] = (word, *statement[1:])
                    self.assertIs(place in told, is_plain(Program(functions), growing, most=4000))
                    found += 1
                else:
                    self.assertNotIn(place, told)

    def test_most(self):
        program = main([PUT, ("copy", "t", "s"), ("put", "t", "t"), PUT, ("look", "t")])
        needed = max(len(Table(program, "spare")), len(Table(GROWN, "spare")))
        self.assertEqual(idle(program, "spare", most=needed), [])
        with self.assertRaises(TooMany) as caught:
            idle(program, "spare", most=needed - 1)
        self.assertEqual(caught.exception.limit, needed - 1)


class Guarantee(unittest.TestCase):
    def test_more_repair_keeps_a_plain_program_plain(self):
        source = random.Random(904)
        for _ in range(150):
            program = drawn_program(source, names=("p", "r", "s"))
            growing = source.choice(GROWINGS)
            if is_plain(program, growing, most=4000):
                places = [place for place in open_places(program) if source.random() < 0.5]
                self.assertIs(is_plain(repaired(program, tuple(places)), growing, most=4000), True)


if __name__ == "__main__":
    unittest.main()
