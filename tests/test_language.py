"""The files of the package: how they are written, and that the interface stands where it is listed."""
import ast
import builtins
import pathlib
import unittest

from tests.unchanging import faults

FOLDER = pathlib.Path(__file__).resolve().parent.parent / "sparetails"

INTERFACE = {
    "errors": {name: [] for name in (
        "TailError Wrong BadStatement Endless Unknown NoCell BadRoom Nothing Unfit NoArray Broken NoPlace TooMany "
        "NoFunction Unlike Full NoDeed Refused NoEntry NoText NoCommand").split()},
    "kinds": ["is_integer", "is_name", "is_number", "is_growing"],
    "statements": ["is_statement", "bodies", "read", "named", "made", "copying", "sharing"],
    "programs": {"Program": ["__init__", "__eq__", "functions", "reached", "parameters", "names", "calls", "result"]},
    "places": ["all_places", "ways", "statement_at", "after", "entered"],
    "windows": {"Window": ["__init__", "__eq__", "__len__", "__contains__", "__iadd__", "__getitem__", "__setitem__",
                           "room", "spare", "marks", "shares", "cut", "copied", "put"]},
    "rules": {"exact": [], "doubled": [], "Told": ["__init__", "__call__", "asked", "left"]},
    "machine": {"Machine": ["__init__", "__eq__", "__len__", "step", "back", "here", "is_over", "wanted", "names",
                            "calls", "store", "looks", "room_of", "cells_of", "marks", "plain", "run", "copied"]},
    "runs": ["played", "is_run", "looks", "wrong_look", "walk", "shared"],
    "ways": ["steps_to_end", "steps_to_look", "steps_to_result", "way_to_look", "is_way_to_look"],
    "watching": ["alive", "watched", "passed", "watched_rows", "are_watched_rows"],
    "needless": ["needless", "left_out", "lean"],
    "orders": ["is_order", "points_of", "level_of", "compare", "only", "lacking", "renamed", "placed", "laid_over"],
    "shapes": ["shape_of", "is_shape", "array_of", "share", "stands", "kept_points"],
    "steps": ["begin_row", "followers", "spoiled", "called", "all_entries", "behind"],
    "tables": {"Table": ["__init__", "__len__", "__contains__", "rows", "rows_at", "entries", "ends", "spoiling", "cost",
                         "entry_cost"], "is_closed": []},
    "moments": ["row_of", "run_to"],
    "spoilings": ["first_spoiling", "spoilings", "is_plain", "fewest_steps"],
    "wrongruns": ["wrong_run", "is_wrong_run", "seen_wrong"],
    "repairs": ["repaired", "open_places", "repairs", "cheapest", "repair_paper", "is_repair_paper", "idle"],
    "growings": ["plain_growings", "by_spare_room"],
    "standing": ["outcomes", "bar", "stands_for", "with_calls"],
    "book": {"Book": ["__init__", "__eq__", "__len__", "do", "back", "again", "program", "log", "past", "tried", "copied", "block"]},
    "notation": ["show_statement", "show_program", "show_run", "show_shape", "show_deed", "show_log", "read_statement",
                 "read_program", "read_address", "read_run", "read_shape", "read_deed", "read_log"],
    "desk": {"Desk": ["__init__", "execute"]},
}
# The arguments of the functions, and of the methods behind self; what stands behind a * is passed by keyword.
ARGUMENTS = {
    "runs": {"played": "program run", "is_run": "program thing", "looks": "program run", "wrong_look": "program run",
             "walk": "program run", "shared": "program run"},
    "ways": {"steps_to_end": "program place", "steps_to_look": "program place name", "steps_to_result": "program place name",
             "way_to_look": "program place name", "is_way_to_look": "program place name thing"},
    "watching": {"alive": "program place", "watched": "program place behind", "passed": "program function behind",
                 "watched_rows": "program", "are_watched_rows": "program thing"},
    "needless": {"needless": "program", "left_out": "program places", "lean": "program"},
    "orders": {"is_order": "thing", "points_of": "order", "level_of": "order point", "compare": "order one other",
               "only": "order points", "lacking": "order points", "renamed": "order names", "placed": "order point place",
               "laid_over": "one other"},
    "shapes": {"shape_of": "orders", "is_shape": "thing", "array_of": "shape point", "share": "shape one other",
               "stands": "shape one other", "kept_points": "shape names"},
    "steps": {"begin_row": "program function entry", "followers": "program growing row", "spoiled": "program growing row",
              "called": "program row", "all_entries": "many", "behind": "program row end"},
    "tables": {"Table": "program growing * most", "is_closed": "program growing thing"},
    "moments": {"row_of": "program run", "run_to": "program growing row * most"},
    "spoilings": {"first_spoiling": "program run", "spoilings": "program growing * most", "is_plain": "program growing * most",
                  "fewest_steps": "program growing * most"},
    "wrongruns": {"wrong_run": "program growing * most", "is_wrong_run": "program growing thing", "seen_wrong": "program run"},
    "repairs": {"repaired": "program repair", "open_places": "program", "repairs": "program growing * most",
                "cheapest": "program growing prices * most", "repair_paper": "program growing * most",
                "is_repair_paper": "program growing goods bads * most", "idle": "program growing * most"},
    "growings": {"plain_growings": "program * most", "by_spare_room": "program * most"},
    "standing": {"outcomes": "program growing function entry * most", "bar": "program one other growing * most",
                 "stands_for": "program one other growing * most", "with_calls": "program other one"},
    "book": {"Book": "program"},
    "notation": {"show_statement": "statement", "show_program": "program", "show_run": "run", "show_shape": "shape",
                 "show_deed": "deed", "show_log": "book", "read_statement": "text", "read_program": "text", "read_address": "text",
                 "read_run": "text", "read_shape": "text", "read_deed": "text", "read_log": "program text"},
    "desk": {"Desk": "program"},
}
BUILTINS = """len range enumerate zip min max sum abs sorted reversed int str bool bytes list tuple dict set frozenset
    isinstance ord repr any all divmod Exception ValueError TypeError KeyError IndexError LookupError
    ZeroDivisionError ArithmeticError OverflowError RuntimeError NotImplementedError AttributeError StopIteration
    NotImplemented property""".split()
METHODS = """append clear copy count endswith extend find get index insert isalnum isalpha isdigit islower isspace
    isupper items join keys ljust lower lstrip partition pop remove replace reverse rfind rjust rpartition rsplit
    rstrip setdefault split splitlines startswith strip update upper values zfill bit_length add discard""".split()
BARRED = """register mro elements open input law version_info with_traceback add_note attrgetter breakpoint compile
    copyright credits delattr dir eval exec exit gc getattr globals hasattr help id importlib license locals
    methodcaller os quit setattr super type vars sys""".split()
DOUBLE = """__init__ __eq__ __len__ __call__ __iter__ __iadd__ __contains__ __getitem__ __setitem__""".split()
PURE = ["__eq__", "__len__", "__contains__", "__getitem__", "__iter__"]
BARRED_NODES = (
    ast.Global, ast.Nonlocal, ast.AsyncFunctionDef, ast.Await, ast.Lambda, ast.With, ast.Match, ast.Set,
    ast.SetComp, ast.GeneratorExp, ast.JoinedStr, ast.Delete, ast.NamedExpr, ast.Div, ast.MatMult, ast.Assert,
    ast.YieldFrom, ast.AnnAssign, ast.Import,
)


class Files(unittest.TestCase):
    @classmethod
    def setUpClass(cls):
        cls.texts = {path.stem: path.read_bytes().decode("utf-8") for path in sorted(FOLDER.glob("*.py"))}
        cls.trees = {name: ast.parse(text) for name, text in cls.texts.items()}
        cls.defined = {name: cls.bound(tree) for name, tree in cls.trees.items()}

    @staticmethod
    def bound(tree):
        found = []
        for node in tree.body:
            if isinstance(node, (ast.FunctionDef, ast.ClassDef)):
                found.append(node.name)
            if isinstance(node, ast.Assign):
                found.append(node.targets[0].id)
        return found

    def nodes(self, *kinds):
        for name, tree in self.trees.items():
            for node in ast.walk(tree):
                if isinstance(node, kinds):
                    yield name, node

    def test_the_folder_holds_nothing_else(self):
        for path in FOLDER.iterdir():
            self.assertTrue(path.suffix == ".py" or path.name == "__pycache__", path.name)
            self.assertEqual(path.name, path.name.lower())

    def test_lines(self):
        for name, text in self.texts.items():
            lines = text.split("\n")
            self.assertLessEqual(len(lines), 399, name)
            self.assertLessEqual(max(map(len, lines)), 120, name)
            self.assertTrue(all(char == "\n" or " " <= char <= "~" for char in text), name)
            self.assertTrue(text.endswith("\n") and not text.endswith("\n\n"), name)

    def test_functions_are_small(self):
        for name, node in self.nodes(ast.FunctionDef):
            self.assertLessEqual(node.end_lineno - node.lineno + 1, 40, (name, node.name))

    def test_module_level(self):
        allowed = (ast.ImportFrom, ast.FunctionDef, ast.ClassDef, ast.Assign)
        for name, tree in self.trees.items():
            self.assertTrue(ast.get_docstring(tree), name)
            kinds = [type(node) for node in tree.body[1:]]
            self.assertTrue(all(kind in allowed for kind in kinds), name)
            imports = [at for at, kind in enumerate(kinds) if kind is ast.ImportFrom]
            self.assertEqual(imports, list(range(len(imports))), name)
            self.assertEqual(len(self.defined[name]), len(set(self.defined[name])), name)

    def test_imports(self):
        known = {}
        for name, node in self.nodes(ast.ImportFrom):
            package, _, file = node.module.partition(".")
            if package == "heapq":
                self.assertLessEqual({alias.name for alias in node.names}, {"heappop", "heappush"})
                continue
            self.assertEqual((package, node.level), ("sparetails", 0))
            for alias in node.names:
                self.assertIsNone(alias.asname)
                self.assertIn(alias.name, self.defined[file])
            known.setdefault(name, set()).add(file)
        done = set()
        while set(self.trees) - done:
            free = {name for name in set(self.trees) - done if known.get(name, set()) <= done}
            self.assertTrue(free, "files import from one another in a circle")
            done |= free

    def test_every_import_is_used(self):
        for name, tree in self.trees.items():
            used = {node.id for node in ast.walk(tree) if isinstance(node, ast.Name)}
            for node in tree.body:
                if isinstance(node, ast.ImportFrom):
                    self.assertLessEqual({alias.name for alias in node.names}, used, name)

    def test_names(self):
        for name, tree in self.trees.items():
            imported = {a.name for node in tree.body if isinstance(node, ast.ImportFrom) for a in node.names}
            classes = {node.name for node in tree.body if isinstance(node, ast.ClassDef)}
            local = {node.arg for node in ast.walk(tree) if isinstance(node, ast.arg)}
            stored = {n.id for n in ast.walk(tree) if isinstance(n, ast.Name) and isinstance(n.ctx, ast.Store)}
            local |= stored - set(self.defined[name])
            self.assertFalse((local | stored) & (imported | classes | set(dir(builtins))), name)
            nested = {node.name for node in ast.walk(tree) if isinstance(node, ast.FunctionDef)}
            known = local | nested | imported | set(self.defined[name]) | set(BUILTINS)
            for node in ast.walk(tree):
                if isinstance(node, ast.Name):
                    self.assertIn(node.id, known, name)
                    self.assertNotIn(node.id, BARRED, name)
            self.assertFalse(set(self.defined[name]) & set(dir(builtins)), name)

    def test_parts_of_the_language_that_are_not_used(self):
        for name, node in self.nodes(*BARRED_NODES):
            self.fail(f"{name}, line {node.lineno}: {type(node).__name__}")
        for name, node in self.nodes(ast.Constant):
            self.assertNotIsInstance(node.value, (float, complex))
            if isinstance(node.value, str):
                self.assertNotIn("%", node.value)
        for name, node in self.nodes(ast.Compare):
            for operator, side in zip(node.ops, node.comparators):
                if isinstance(operator, (ast.Is, ast.IsNot)):
                    self.assertIsInstance(side, ast.Constant)

    def test_calls_of_builtins(self):
        for name, node in self.nodes(ast.Call):
            if isinstance(node.func, ast.Name) and node.func.id == "reversed":
                self.assertIn(ast.unparse(node.args[0]).split("(")[0], ("list", "tuple", "sorted", "range"), (name, node.lineno))
            if isinstance(node.func, ast.Name) and node.func.id == "set":
                around = [other for other in ast.walk(self.trees[name])
                          if isinstance(other, ast.Call) and node in other.args and isinstance(other.func, ast.Name)]
                self.assertEqual([other.func.id in ("sorted", "len") for other in around], [True], (name, node.lineno))
            if isinstance(node.func, ast.Name) and node.func.id in BUILTINS:
                told = {word.arg for word in node.keywords}
                self.assertLessEqual(told, {"key", "reverse"} if node.func.id == "sorted" else {"key", "default"}, name)
        for name, node in self.nodes(ast.AugAssign):
            self.fail(f"{name}, line {node.lineno}")

    def test_own_errors_alone_are_caught(self):
        errors = set(self.defined["errors"])
        for name, node in self.nodes(ast.ExceptHandler):
            told = node.type.elts if isinstance(node.type, ast.Tuple) else [node.type]
            self.assertLessEqual({one.id for one in told}, errors, name)
            self.assertIsNone(node.name)
        for name, node in self.nodes(ast.Try):
            self.assertFalse(node.orelse, name)
            if node.finalbody:
                # What an error undoes is put back by one plain assignment.
                self.assertEqual((name, [type(part) for part in node.finalbody]), ("book", [ast.If]))
                self.assertEqual(ast.unparse(node.finalbody[0].test), "ended is None")
                self.assertEqual([type(part) for part in node.finalbody[0].body], [ast.Assign])
            for part in [inner for line in node.body for inner in ast.walk(line)]:
                self.assertNotIsInstance(part, (ast.Yield, ast.Compare, ast.Subscript, ast.comprehension), name)

    def test_generators(self):
        yielding = {}
        for name, node in self.nodes(ast.FunctionDef):
            if any(isinstance(part, ast.Yield) for part in ast.walk(node)):
                yielding[node.name] = name
        self.assertEqual(yielding, {"walk": "runs"})
        for name, node in self.nodes(ast.FunctionDef):
            self.assertTrue(node.name not in yielding or yielding[node.name] == name)
        for name, node in self.nodes(ast.Yield):
            alone = [part.value for part in ast.walk(self.trees[name]) if isinstance(part, ast.Expr)]
            self.assertIn(node, alone)
        for name, node in self.nodes(ast.Name):
            self.assertNotIn(node.id, yielding)

    def test_plain_values_at_module_level(self):
        for name, tree in self.trees.items():
            for node in tree.body:
                if isinstance(node, ast.Assign):
                    defined = {one.name for one in tree.body if isinstance(one, ast.FunctionDef)}
                    for part in ast.walk(node.value):
                        self.assertNotIsInstance(part, (ast.Call, ast.Starred, ast.BinOp, ast.comprehension), name)
                        self.assertTrue(not isinstance(part, ast.Name) or part.id in defined, name)

    def test_tables_at_module_level_are_only_read(self):
        tables = {}
        for name, tree in self.trees.items():
            for node in tree.body:
                if isinstance(node, ast.Assign) and isinstance(node.value, (ast.List, ast.Dict)):
                    tables[node.targets[0].id] = name
        for name, tree in self.trees.items():
            allowed = set()
            for node in ast.walk(tree):
                if isinstance(node, ast.Subscript) and isinstance(node.ctx, ast.Load):
                    allowed.add(id(node.value))
                if isinstance(node, ast.Compare):
                    allowed |= {id(one) for one in node.comparators}
                if isinstance(node, (ast.For, ast.comprehension)):
                    allowed.add(id(node.iter))
                if isinstance(node, ast.Call) and isinstance(node.func, ast.Attribute) and node.func.attr in ("get", "items"):
                    allowed.add(id(node.func.value))
                if isinstance(node, ast.Call) and isinstance(node.func, ast.Name) and node.func.id in ("dict", "list", "len"):
                    allowed |= {id(one) for one in node.args}
            for node in ast.walk(tree):
                if isinstance(node, ast.Name) and isinstance(node.ctx, ast.Load) and node.id in tables:
                    self.assertIn(id(node), allowed, (name, node.id, node.lineno))

    def test_methods_and_attributes(self):
        methods, stored = set(), set()
        for _, node in self.nodes(ast.ClassDef):
            inside = {part.name for part in node.body if isinstance(part, ast.FunctionDef)}
            mine = {part.attr for part in ast.walk(node)
                    if isinstance(part, ast.Attribute) and isinstance(part.ctx, ast.Store)}
            self.assertFalse(inside & mine, node.name)
            methods |= inside
            stored |= mine
        self.assertFalse({name for name in methods if name.startswith("__")} - set(DOUBLE))
        self.assertNotIn("keys", methods | stored)
        self.assertFalse((methods | stored) & set(BARRED))
        self.assertFalse(methods & stored)
        for name, node in self.nodes(ast.Call):
            if isinstance(node.func, ast.Attribute):
                self.assertIn(node.func.attr, methods | set(METHODS), name)
        for name, node in self.nodes(ast.Attribute):
            self.assertIn(node.attr, methods | stored | set(METHODS), name)

    def test_decorators_and_classes(self):
        for name, node in self.nodes(ast.FunctionDef):
            told = [one.id for one in node.decorator_list]
            self.assertIn(told, ([], ["property"]), name)
            if node.name == "__len__":
                self.assertEqual(node.body[-1].value.func.id, "len", name)
        for name, node in self.nodes(ast.ClassDef):
            kinds = [type(part) for part in node.body if not isinstance(part, ast.Expr)]
            self.assertLessEqual(set(kinds), {ast.FunctionDef}, (name, node.name))
            names = [part.name for part in node.body if isinstance(part, ast.FunctionDef)]
            self.assertEqual(len(names), len(set(names)), (name, node.name))
            if "__getitem__" in names:
                self.assertIn("__iter__", names)

    def test_operators_and_properties_change_nothing(self):
        for name, node in self.nodes(ast.FunctionDef):
            if node.name in PURE or node.decorator_list:
                for part in ast.walk(node):
                    self.assertNotIsInstance(part, (ast.AugAssign, ast.For, ast.While), (name, node.name))
                    if isinstance(part, (ast.Attribute, ast.Subscript)):
                        self.assertIsInstance(part.ctx, ast.Load, (name, node.name))

    def test_what_operators_and_properties_call_changes_nothing(self):
        self.assertEqual(faults(self.trees), [])

    def test_tables_at_module_level_hold_no_lists(self):
        for name, tree in self.trees.items():
            for node in tree.body:
                if isinstance(node, ast.Assign) and isinstance(node.value, (ast.List, ast.Tuple, ast.Dict)):
                    inner = [part for part in ast.walk(node.value) if part is not node.value]
                    self.assertFalse([part for part in inner if isinstance(part, (ast.List, ast.Dict))], name)

    def test_what_a_loop_goes_over_is_not_changed_in_it(self):
        changing = ("append", "clear", "extend", "insert", "pop", "remove", "reverse", "setdefault", "update")
        for name, node in self.nodes(ast.For):
            gone_over = {ast.unparse(part) for part in ast.walk(node.iter) if isinstance(part, (ast.Name, ast.Attribute))}
            for part in [inner for line in node.body for inner in ast.walk(line)]:
                if isinstance(part, ast.Call) and isinstance(part.func, ast.Attribute) and part.func.attr in changing:
                    self.assertNotIn(ast.unparse(part.func.value), gone_over, (name, node.lineno))
                if isinstance(part, ast.Subscript) and isinstance(part.ctx, ast.Store):
                    self.assertNotIn(ast.unparse(part.value), gone_over, (name, node.lineno))

    def test_the_arguments(self):
        for name, listed in ARGUMENTS.items():
            defined = {node.name: node for node in self.trees[name].body
                       if isinstance(node, (ast.FunctionDef, ast.ClassDef))}
            for told, wanted in listed.items():
                node = defined[told]
                for one in node.args.kw_defaults if isinstance(node, ast.FunctionDef) else []:
                    self.assertEqual(ast.unparse(one), "1000", (name, told))
                if isinstance(node, ast.ClassDef):
                    node = [part for part in node.body if isinstance(part, ast.FunctionDef) and part.name == "__init__"][0]
                found = [one.arg for one in node.args.args if one.arg != "self"]
                found += ["*"] * bool(node.args.kwonlyargs) + [one.arg for one in node.args.kwonlyargs]
                self.assertEqual(found, wanted.split(), (name, told))
                self.assertFalse(node.args.defaults or node.args.vararg or node.args.kwarg or node.args.posonlyargs)

    def test_the_interface(self):
        for name, listed in INTERFACE.items():
            defined = {node.name: node for node in self.trees[name].body
                       if isinstance(node, (ast.FunctionDef, ast.ClassDef))}
            for told in listed:
                self.assertIn(told, defined, name)
                if isinstance(defined[told], ast.ClassDef):
                    methods = [part.name for part in defined[told].body if isinstance(part, ast.FunctionDef)]
                    wanted = listed[told] if isinstance(listed, dict) else []
                    self.assertLessEqual(set(wanted), set(methods), told)


if __name__ == "__main__":
    unittest.main()
