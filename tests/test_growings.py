"""Growings [91], [9]."""
import random
import unittest

from sparetails.errors import TooMany
from sparetails.growings import by_spare_room, plain_growings
from sparetails.spoilings import is_plain
from sparetails.tables import Table
from sparetails.wrongruns import is_wrong_run, wrong_run
from tests.drawing import PUT, dense_program, drawn_program, main, share_a_list, spoil

GROWN = main([PUT, ("take", "t", "s"), ("put", "t", "t"), PUT, ("look", "t")])
SET = main([("take", "t", "s"), ("set", "s"), ("look", "t")])
BOTH = main([("copyput", "t", "s"), PUT, ("look", "s"), ("look", "t")])


class Growings(unittest.TestCase):
    def test_both_one_none(self):
        self.assertEqual([plain_growings(program) for program in (BOTH, GROWN, SET, main([]))],
                         [["exact", "spare"], ["exact"], [], ["exact", "spare"]])
        self.assertEqual([by_spare_room(program) is None for program in (BOTH, GROWN, SET, main([]))], [True, False, True, True])

    def test_a_run_by_spare_room(self):
        run = by_spare_room(GROWN)
        self.assertEqual(run[0], "spare")
        self.assertIs(is_wrong_run(GROWN, "spare", run), True)
        self.assertTrue(all(type(part) is tuple for part in (run, run[1], run[2], *run[2])))

    def test_drawn_programs(self):
        source = random.Random(91)
        found = {0: 0, 1: 0, 2: 0}
        while min(found.values()) < 15:
            program = dense_program(source, source.choice([("r", "s"), ("p", "r", "s")]))
            try:
                told = plain_growings(program, most=150)
            except TooMany:
                continue
            self.assertEqual(told, [one for one in ("exact", "spare") if is_plain(program, one, most=4000)])
            run = by_spare_room(program, most=4000)
            self.assertIs(run is not None, told == ["exact"])
            if run is not None:
                self.assertIs(is_wrong_run(program, "spare", run), True)
                self.assertEqual(run, wrong_run(program, "spare", most=4000))
            found[len(told)] += 1

    def test_plain_for_spare_is_plain_for_exact(self):
        source = random.Random(911)
        for _ in range(200):
            program = drawn_program(source, names=("p", "r", "s"))
            self.assertIn(plain_growings(program, most=4000), ([], ["exact"], ["exact", "spare"]))

    def test_most(self):
        """exact is looked at first, and always; spare only if the program is plain for exact."""
        source = random.Random(912)
        seen = {}
        for program in [GROWN, SET, BOTH] + [dense_program(source, ("p", "r", "s")) for _ in range(150)]:
            try:
                exact, spare = (len(Table(program, one, most=200)) for one in ("exact", "spare"))
            except TooMany:
                continue
            plain = is_plain(program, "exact")
            for most in {exact - 1, exact, spare - 1, spare} - {0}:
                raises = most < exact or (plain and most < spare)
                seen[(most < exact, most < spare, plain)] = True
                for asked in (plain_growings, by_spare_room):
                    if raises:
                        with self.assertRaises(TooMany) as caught:
                            asked(program, most=most)
                        self.assertEqual(caught.exception.limit, most)
                    else:
                        self.assertEqual(asked(program, most=most), asked(program))
        self.assertEqual(len(seen), 8)

    def test_a_thousand_if_nothing_is_said(self):
        names = "abcd"
        changes = [[("cut", one, other)] for one, other in zip(names, "bcda")] + [[("new", "a")], [("copyput", "b", "b")]]
        program = main([("loop", [("either", changes)])] + [("set", name) for name in names], "d")
        for asked in (plain_growings, by_spare_room):
            with self.assertRaises(TooMany) as caught:
                asked(program)
            self.assertEqual(caught.exception.limit, 1000)

    def test_the_same_again(self):
        kept = GROWN.functions()
        first = plain_growings(GROWN)
        self.assertFalse(share_a_list(first, plain_growings(GROWN)))
        spoil(first)
        self.assertEqual(plain_growings(GROWN), ["exact"])
        self.assertEqual(by_spare_room(GROWN), by_spare_room(GROWN))
        self.assertEqual(GROWN.functions(), kept)


if __name__ == "__main__":
    unittest.main()
