"""That faults of operators, __eq__, __len__, __repr__, __str__ and properties are found in the text of a package."""
import ast
import textwrap
import unittest

from tests.unchanging import faults

BOX = """
class Box:
    def __init__(self, rows):
        self.rows = rows
        self.act = rows

"""


def method(*lines, head="def __contains__(self, x):", more=""):
    """A file with a class that has one more method."""
    return BOX + textwrap.indent("\n".join([head, *["    " + line for line in lines], ""]), "    ") + more


def whys(**texts):
    """What is found in a package of files with these texts, less where it is."""
    found = faults({name: ast.parse(textwrap.dedent(text)) for name, text in texts.items()})
    return [why for _, _, why, _ in found]


CHANGES = {
    "sets an attribute": ["self.rows = x", "self.many, self.rows = 0, x", "x.rows.many = 1", "for self.at in x: pass"],
    "sets an item": ["self.rows[0] = x", "x[1:2] = []", "told = x\ntold[0] = 1", "told = {k: k for k in x}\ntold[0] = 1",
                     "told = [0] * 3\ntold[0] = 1", "told = []\ntold = x\ntold[0] = 1"],
    "changes by a sign, or deletes": ["told = 1\ntold += 1", "told = [1]\ndel told[0]"],
    "changes by a method": ["self.rows.append(x)", "x.pop()", "x.rows.update({})", "told = x\ntold.clear()",
                            "told = [1]\ntold.sort()", "told = list(x)\ntold.sort()", "seen = set()\nseen.add(x)"],
    "calls what it is handed or holds": ["x()", "self.act(x)", "x.act()", "self.rows[0](x)", "told = self.act\ntold()",
                                         "x()()", "told = sorted(self.rows, key=x)", "max(x, key=self.act)"],
    "makes an object": ["told = Box(x)"],
}
CALM = ("return len(self.rows)", "told = [1]\ntold.append(x)\ntold[0] = 2\nreturn told", "return x == self.rows[0].rows",
        "told = [k for k in x]\ntold.extend(x)\nreturn told", "raise ValueError(x)", "return isinstance(x, Box)",
        "return sorted(x, key=lambda one: one.rows)", "return min(x, key=len)", "return x.rows.get(1)")


class Unchanging(unittest.TestCase):
    def test_what_a_method_does_itself(self):
        heads = ("def __contains__(self, x):", "def __getitem__(self, x):", "def __lt__(self, x):",
                 "@property\ndef room(self, x):")
        for why, bodies in CHANGES.items():
            for body in bodies:
                for head in heads:
                    self.assertEqual(set(whys(box=method(*body.split("\n"), head=head))), {why}, (head, body))
                found = whys(box=method(*body.split("\n"), head="def __eq__(self, x):"))
                self.assertIn(why, found, body)

    def test_what_is_no_fault(self):
        for body in CALM:
            for head in ("def __contains__(self, x):", "def __eq__(self, x):", "@property\ndef room(self, x):"):
                self.assertEqual(whys(box=method(*body.split("\n"), head=head)), [], (head, body))

    def test_lists_that_only_some_may_make(self):
        for body in (["told = list(x)", "told.append(1)"], ["told = sorted(x)", "told[0] = 1"],
                     ["told = dict(x)", "told[0] = 1"], ["told = {}", "told.setdefault(1, 2)"]):
            self.assertEqual(whys(box=method(*body)), [], body)
            for name in ("__eq__", "__len__", "__repr__", "__str__"):
                found = whys(box=method(*body, head=f"def {name}(self, x):"))
                self.assertEqual(len(found), 2, (name, body))
                self.assertIn("assigns a name", found)

    def test_eq_and_the_like_assign_nothing_else(self):
        for body in (["told = x"], ["for told in x:", "    pass"], ["told: int = 1"], ["told = x", "return [told for told in [1]]"]):
            self.assertEqual(whys(box=method(*body, head="def __eq__(self, x):")), ["assigns a name"], body)
            self.assertEqual(whys(box=method(*body)), [], body)

    def test_what_is_said_to_change_may_do_so(self):
        for head in ("def __iadd__(self, x):", "def __setitem__(self, x, y):", "def __call__(self, x):",
                     "def told(self, x):", "@room.setter\ndef room(self, x):"):
            for bodies in CHANGES.values():
                for body in bodies:
                    self.assertEqual(whys(box=method(*body.split("\n"), head=head)), [], (head, body))

    def test_heaps(self):
        first = "from heapq import heappop, heappush"
        for body, want in ((["heappush(self.rows, x)"], ["changes a heap"]), (["heappop(x)"], ["changes a heap"]),
                           (["told = [1]", "heappush(told, x)"], [])):
            for head in ("def __contains__(self, x):", "def __eq__(self, x):", "@property\ndef room(self, x):"):
                self.assertEqual(whys(box=first + method(*body, head=head)), want, (head, body))

    def test_functions_that_are_called(self):
        calm = "\ndef told(rows):\n    return rows\n"
        other = "\ndef told(rows):\n    deeper(rows)\n\ndef deeper(rows):\n    rows.append(1)\n    told(rows)\n"
        table = other + "\nTABLE = {1: told}\n"
        for body, more, want in (("told(x)", calm, []), ("told(x)", other, ["changes by a method"]),
                                 ("return sorted(x, key=told)", calm, []),
                                 ("return sorted(x, key=told)", other, ["changes by a method"]),
                                 ("return TABLE[1]", table, ["changes by a method"]),
                                 ("return x", table, [])):
            self.assertEqual(whys(box=method(body, more=more)), want, (body, more))
            first = "from sparetails.far import told\n" + ("from sparetails.far import TABLE\n" if "TABLE" in more else "")
            self.assertEqual(whys(far=more, box=first + method(body)), want, (body, more))

    def test_methods_count_by_their_names(self):
        head = "def __eq__(self, other):"
        body = "return isinstance(other, Box) and self.run() == other.run()"
        run = "\n    def run(self):\n        return (self.rows, tuple(self.act))\n"
        self.assertEqual(whys(box=method(body, head=head, more=run)), [])
        # Another class has a method of this name, and what that one calls changes and calls what it holds.
        way = """
        class Way:
            def __init__(self, act):
                self.ask = act
            def run(self):
                return self.least()
            def least(self):
                told = [0] * 3
                told[0] = self.ask(told)
                return told
        """
        found = faults({"box": ast.parse(method(body, head=head, more=run)), "way": ast.parse(textwrap.dedent(way))})
        self.assertEqual(found, [("way", 9, "calls what it is handed or holds", "box, line 7: __eq__"),
                                 ("way", 9, "sets an item", "box, line 7: __eq__")])
        other = "return isinstance(other, Box) and self.rows == other.rows and self.act == other.act"
        self.assertEqual(whys(box=method(other, head=head, more=run), way=way), [])

    def test_methods_that_are_named_without_a_call(self):
        rank = "\n    def rank(self, one):\n        self.rows = one\n"
        for body in ("return min(x, key=self.rank)", "return x.rank", "told = self.rank"):
            self.assertEqual(whys(box=method(body, more=rank)), ["sets an attribute"], body)


if __name__ == "__main__":
    unittest.main()
