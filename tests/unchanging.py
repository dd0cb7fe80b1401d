"""Finds where operators, __eq__, __len__, __repr__, __str__ and properties of a package change or call too much.

Neither they nor what they call may change anything, or call what they are handed or hold. The rules take a call of a
method by the method's name: every method of the package that is called so counts as called. What is named without a
call, as a key or in a table of functions, counts as called here, too. Signs such as += are taken for faults throughout,
as the package has none.
"""
import ast

CALM_ONES = "__eq__ __len__ __repr__ __str__".split()
# These are said to change things.
FREE_ONES = """__init__ __call__ __enter__ __exit__ __setitem__ __iadd__ __isub__ __imul__ __ifloordiv__ __imod__
    __ipow__ __iand__ __ior__ __ixor__ __ilshift__ __irshift__""".split()
CHANGING = """append clear extend insert pop remove reverse setdefault update""".split()
# Not even of a list or a set that is made on the spot.
CHANGING_ALWAYS = ["sort", "add", "discard"]
HARMLESS = """len range enumerate zip min max sum abs sorted reversed int str bool bytes list tuple dict set frozenset
    isinstance ord repr any all divmod gcd lcm isqrt comb perm factorial product combinations permutations""".split()


class Package:
    """What the files of a package define: trees is a dict from the names of files to their trees."""

    def __init__(self, trees):
        self.bound = {}
        self.methods = {}
        self.stored = set()
        self.heaps = set()
        for file, tree in trees.items():
            self.bound[file] = {name: (file, node) for node in tree.body for name in self._names_of(node)}
        for file, tree in trees.items():
            for node in ast.walk(tree):
                self._take_in(file, node)

    @staticmethod
    def _names_of(node):
        if isinstance(node, (ast.FunctionDef, ast.ClassDef)):
            return [node.name]
        return [target.id for target in node.targets] if isinstance(node, ast.Assign) else []

    def _take_in(self, file, node):
        if isinstance(node, ast.ImportFrom) and node.module == "heapq":
            self.heaps |= {(file, alias.name) for alias in node.names}
        elif isinstance(node, ast.ImportFrom) and "." in node.module:
            source = self.bound[node.module.split(".")[1]]
            self.bound[file].update({alias.name: source[alias.name] for alias in node.names})
        elif isinstance(node, ast.ClassDef):
            for method in node.body:
                if isinstance(method, ast.FunctionDef):
                    self.methods.setdefault(method.name, []).append((file, method))
        elif isinstance(node, ast.Attribute) and isinstance(node.ctx, ast.Store):
            self.stored.add(node.attr)

    def roots(self):
        """The methods that have to change nothing, as tuples (file, node)."""
        return [(file, node) for name in self.methods for file, node in self.methods[name] if _is_root(node)]


def _is_root(node):
    told = [ast.unparse(one) for one in node.decorator_list]
    is_double = node.name.startswith("__") and node.name.endswith("__")
    return "property" in told or (is_double and node.name not in FREE_ONES)


def _makes_a_list(value, is_calm):
    """Whether a value is a list, or a dict, that is made here, as the rules tell it."""
    if isinstance(value, (ast.List, ast.ListComp)):
        return True
    is_call = isinstance(value, ast.Call) and isinstance(value.func, ast.Name)
    return not is_calm and (isinstance(value, ast.Dict) or (is_call and value.func.id in ("list", "dict", "sorted")))


class Look:
    """What one function does by itself: the faults that it has, and the functions that count as called."""

    def __init__(self, package, file, node):
        self.package = package
        self.file = file
        self.node = node
        self.faults = []
        self.called = []
        self._is_calm = node.name in CALM_ONES
        parts = [part for line in node.body for part in ast.walk(line)]
        self._made = self._made_here(parts)
        # Where comprehensions, and they alone, assign to names.
        self._gone_over = {id(name) for part in parts if isinstance(part, ast.comprehension)
                           for name in ast.walk(part.target)}
        self._nested = {part.name for part in parts if isinstance(part, ast.FunctionDef)}
        self._raised = {id(part.exc.func) for part in parts
                        if isinstance(part, ast.Raise) and isinstance(part.exc, ast.Call)}
        for part in parts:
            self._look_at(part)

    def _made_here(self, parts):
        """The names that have nothing but lists, or dicts, that the function makes."""
        stores = [part.id for part in parts if isinstance(part, ast.Name) and isinstance(part.ctx, ast.Store)]
        made = [part.targets[0].id for part in parts if isinstance(part, ast.Assign)
                and len(part.targets) == 1 and isinstance(part.targets[0], ast.Name)
                and _makes_a_list(part.value, self._is_calm)]
        passed = {part.arg for part in ast.walk(self.node) if isinstance(part, ast.arg)}
        return {name for name in made if made.count(name) == stores.count(name)} - passed

    def _is_made(self, node):
        return isinstance(node, ast.Name) and node.id in self._made

    def _fault(self, node, why):
        self.faults.append((self.file, node.lineno, why))

    def _look_at(self, part):
        if isinstance(part, (ast.AugAssign, ast.Delete)):
            self._fault(part, "changes by a sign, or deletes")
        if isinstance(part, ast.Attribute):
            self._look_at_attribute(part)
        if isinstance(part, ast.Subscript) and not isinstance(part.ctx, ast.Load) and not self._is_made(part.value):
            self._fault(part, "sets an item")
        if isinstance(part, ast.Name):
            self._look_at_name(part)
        if isinstance(part, ast.Call):
            self._look_at_call(part)
            for word in part.keywords:
                if word.arg == "key":
                    self._look_at_key(word.value)

    def _look_at_attribute(self, part):
        if not isinstance(part.ctx, ast.Load):
            self._fault(part, "sets an attribute")
        self.called.extend(self.package.methods.get(part.attr, []))

    def _look_at_name(self, part):
        if isinstance(part.ctx, ast.Store) and self._is_calm:
            if part.id not in self._made and id(part) not in self._gone_over:
                self._fault(part, "assigns a name")
        if isinstance(part.ctx, ast.Load):
            self._call_all_in(self.package.bound[self.file].get(part.id))

    def _call_all_in(self, told):
        """Lets a function count as called, and those of a table at module level."""
        if told is None or isinstance(told[1], ast.ClassDef):
            return
        file, node = told
        if isinstance(node, ast.FunctionDef):
            self.called.append(told)
            return
        for part in ast.walk(node.value):
            if isinstance(part, ast.Name):
                self._call_all_in(self.package.bound[file].get(part.id))

    def _look_at_call(self, part):
        if isinstance(part.func, ast.Attribute):
            self._look_at_method(part, part.func)
        elif isinstance(part.func, ast.Name):
            self._look_at_call_of(part, part.func.id)
        else:
            self._fault(part, "calls what it is handed or holds")

    def _look_at_method(self, part, method):
        if method.attr in CHANGING_ALWAYS or (method.attr in CHANGING and not self._is_made(method.value)):
            self._fault(part, "changes by a method")
        if method.attr in self.package.stored:
            self._fault(part, "calls what it is handed or holds")

    def _look_at_call_of(self, part, name):
        if id(part.func) in self._raised:
            return
        told = self.package.bound[self.file].get(name)
        if (self.file, name) in self.package.heaps:
            if not part.args or not self._is_made(part.args[0]):
                self._fault(part, "changes a heap")
        elif told is not None and isinstance(told[1], ast.ClassDef):
            self._fault(part, "makes an object")
        elif not self._is_known(name):
            self._fault(part, "calls what it is handed or holds")

    def _is_known(self, name):
        """Whether a name is that of a builtin, of a function of the package or of one nested here."""
        told = self.package.bound[self.file].get(name)
        return name in HARMLESS or name in self._nested or (told is not None and isinstance(told[1], ast.FunctionDef))

    def _look_at_key(self, key):
        is_method = isinstance(key, ast.Attribute) and key.attr in self.package.methods
        is_function = isinstance(key, ast.Name) and self._is_known(key.id)
        if not (is_method or is_function or isinstance(key, ast.Lambda)):
            self._fault(key, "calls what it is handed or holds")


def faults(trees):
    """The ascending list of the faults: tuples (file, line, why, root), root being the method that may not do so."""
    package = Package(trees)
    found = set()
    for file, root in package.roots():
        for fault in _faults_behind(package, file, root):
            found.add((*fault, f"{file}, line {root.lineno}: {root.name}"))
    return sorted(found)


def _faults_behind(package, file, node):
    """The faults of a function and of all that it calls, itself or by others."""
    found = []
    seen = set()
    waiting = [(file, node)]
    while waiting:
        told = waiting.pop()
        if id(told[1]) not in seen:
            seen.add(id(told[1]))
            look = Look(package, *told)
            found.extend(look.faults)
            waiting.extend(look.called)
    return found
