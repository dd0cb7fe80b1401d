"""The kinds of plain values [20]."""
import unittest

from sparetails.kinds import is_growing, is_integer, is_name, is_number
from tests.drawing import STRANGE


class Kinds(unittest.TestCase):
    def same(self, told, wanted, thing=None):
        self.assertIs(told, wanted, repr(thing))

    def test_integers(self):
        for thing in (0, 1, -1, 7, 10 ** 39, -(10 ** 39), int("9" * 40), 2 ** 63):
            self.same(is_integer(thing), True, thing)

    def test_no_integers(self):
        for thing in (True, False, None, "", "1", b"1", [], [1], (1,), {}, {1: 1}, len, int):
            self.same(is_integer(thing), False, thing)

    def test_names(self):
        for thing in ("a", "z", "main", "abcdefgh", "zzzzzzzz", "or"):
            self.same(is_name(thing), True, thing)

    def test_no_names(self):
        for thing in ("", "abcdefghi", "A", "aB", "a1", "a b", " a", "a\n", "a_", "-", "\u00e4", "\u0430", "\u00df",
                      "{", "`", "a" * 10000):
            self.same(is_name(thing), False, thing)
        for thing in (None, True, False, 1, b"a", ["a"], ("a",), {"a": 1}, [], (), {}, str):
            self.same(is_name(thing), False, thing)

    def test_numbers(self):
        for many in (1, 2, 5, 1000, 10 ** 39):
            self.same(is_number(many, 0), True)
            self.same(is_number(many, many - 1), True)
            self.same(is_number(many, many), False)
            self.same(is_number(many, many + 1), False)
            self.same(is_number(many, -1), False)
            self.same(is_number(many, -many), False)
            self.same(is_number(many, int("9" * 40)), False)

    def test_no_number_is_below_zero(self):
        for thing in (0, -1, 1, None, "0", True, False):
            self.same(is_number(0, thing), False, thing)

    def test_truths_and_others_are_no_numbers(self):
        for thing in STRANGE:
            if not isinstance(thing, int) or isinstance(thing, bool):
                self.same(is_number(2, thing), False, thing)

    def test_growings(self):
        self.same(is_growing("exact"), True)
        self.same(is_growing("spare"), True)
        for thing in STRANGE + ("", "exac", "exacts", "act", "Spare", "spare ", ("exact",), ["spare"], b"exact"):
            if thing != "exact":
                self.same(is_growing(thing), False, thing)


if __name__ == "__main__":
    unittest.main()
