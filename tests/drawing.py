"""What the tests draw: statements, programs, runs and values of any kind, from a seeded source; and shadows of runs."""
from sparetails.errors import Endless
from sparetails.machine import Machine
from sparetails.places import after, statement_at
from sparetails.programs import Program
from sparetails.watching import alive, watched

NAMES = ("p", "q", "r", "s")
ONE = ("new", "set", "keep", "look")
TWO = ("take", "cut", "put", "copy", "copycut", "copyput")

STRANGE = (
    None, True, False, 0, 1, -1, 10 ** 39, -(10 ** 39), "", "a", "main", "exact", "Exact", "aB", "a b",
    "abcdefgh", "abcdefghi", b"a", (), [], {}, (1,), [1], [True], ["s"], ("s",), {"s": 1}, ((),), [[]],
    ("new", "s"), ["new", "s"], ("look", "s"), ("either", []), ("either", [[]]), ("loop", []), ("loop",),
    ("call", "t", "f", ()), {"main": ([], [])}, {"main": ()}, ([], [], "s"), len, object,
)

PUT = ("put", "s", "s")


def main(body, result="s", **others):
    """The Program with this body of main, and perhaps other functions."""
    return Program({"main": ([], body, result), **others})


def at(*address):
    """The place with this address in main."""
    return ("main", address)


def in_f(*address):
    """The place with this address in f."""
    return ("f", address)


def drawn_statement(source, counts, left, depth, names=NAMES):
    """A statement; counts tells the parameters of the functions to call, left[0] how many may come."""
    left[0] -= 1
    words = list(ONE + TWO) + ["put", "put", "take", "cut", "look", "look"] + (["call"] * 2 if counts else [])
    if depth and left[0] > 0:
        words += ["either", "loop", "loop"]
    word = source.choice(words)
    if word == "either":
        many = source.randint(1, 3)
        return ("either", [drawn_body(source, counts, left, depth - 1, names) for _ in range(many)])
    if word == "loop":
        return ("loop", drawn_body(source, counts, left, depth - 1, names))
    if word == "call":
        called = source.choice(sorted(counts))
        return ("call", source.choice(names), called, tuple(source.choice(names) for _ in range(counts[called])))
    return (word, *[source.choice(names) for _ in range(1 if word in ONE else 2)])


def drawn_body(source, counts, left, depth, names=NAMES, many=5):
    many = source.randint(0, many)
    body = []
    while len(body) < many and left[0] > 0:
        body.append(drawn_statement(source, counts, left, depth, names))
    return body


def drawn_functions(source, most=12, depth=3, names=NAMES):
    """What a program may be made of; it may be that some function cannot end."""
    others = ["f", "g"][:source.randint(0, 2)]
    counts = {name: source.randint(0, 2) for name in others}
    told = {}
    for name in ["main"] + others:
        many = counts.get(name, source.randint(0, 2))
        parameters = source.sample(names, many)
        body = drawn_body(source, counts, [most], depth, names, most)
        told[name] = (parameters, body, source.choice(names))
    return told


def drawn_program(source, most=12, depth=3, names=NAMES):
    while True:
        try:
            return Program(drawn_functions(source, most, depth, names))
        except Endless:
            continue


def dense_body(source, counts, left, depth, names):
    """A body in which much is put, taken, cut and called."""
    words = ["put"] * 6 + ["take", "cut"] * 3 + ["keep", "look", "set", "copy", "copycut", "copyput", "new"]
    words += ["call"] * 4 if counts else []
    words += ["loop", "loop", "either"] if depth else []
    body = []
    for _ in range(source.randint(3, 7)):
        if left[0] == 0:
            break
        left[0] -= 1
        word = source.choice(words)
        if word == "either":
            body.append((word, [dense_body(source, counts, left, depth - 1, names), []]))
        elif word == "loop":
            body.append((word, dense_body(source, counts, left, depth - 1, names)))
        elif word == "call":
            called = source.choice(sorted(counts))
            body.append((word, source.choice(names), called, tuple(source.choice(names) for _ in range(counts[called]))))
        else:
            body.append((word, *[source.choice(names) for _ in range(1 if word in ONE else 2)]))
    return body


def dense_program(source, names, most=11):
    """A program that fills its table: names that are alive long, and looked at in the end."""
    while True:
        counts = {name: source.randint(1, 2) for name in ["f", "g"][:source.randint(0, 2)]}
        told = {}
        for name in ["main", *counts]:
            body = dense_body(source, counts, [most - 1], 2, names) + [(source.choice(["look", "keep"]), source.choice(names))]
            told[name] = (source.sample(names, counts.get(name, 0)), body, source.choice(names))
        try:
            return Program(told)
        except Endless:
            continue


def nested(depth, inner, word="loop"):
    """A body that has the inner body within as many loops, or eithers."""
    body = inner
    for _ in range(depth):
        body = [("loop", body)] if word == "loop" else [("either", [[], body])]
    return body


def bounds_of_room(program, machine, many):
    """The bounds of the room that the next step asks for if so many marks are put, or None."""
    statement = statement_at(program, machine.here())
    if machine.run()[0] == "exact" or statement is None or statement[0] not in ("put", "copyput"):
        return None
    array, length = machine.names()[statement[2]]
    if statement[0] == "put" and length + many <= machine.room_of(array):
        return None
    return (length + many, 10 ** 40)


def drawn_data(source, program, machine):
    """Data with which a step can be done, with small numbers of marks and little spare room."""
    data = [source.randint(low, 3 if high == 1000 else high) for low, high in machine.wanted()]
    room = bounds_of_room(program, machine, data[0]) if data else None
    return tuple(data if room is None else data + [room[0] + source.randint(0, 4)])


def drawn_machine(source, program, growing, steps):
    """A Machine behind so many drawn steps, or fewer if the run is over."""
    machine = Machine(program, growing, [source.randint(1, 3) for _ in program.names("main")])
    while len(machine) < steps and not machine.is_over():
        machine.step(drawn_data(source, program, machine))
    return machine


def listed_run(run):
    """The run with lists for its begins and its data; a run itself is a tuple."""
    return (run[0], list(run[1]), [list(told) for told in run[2]])


def orders_of(points):
    """All orders of some points."""
    if not points:
        return [()]
    found = []
    for order in orders_of(points[1:]):
        for k in range(len(order)):
            found.append(order[:k] + (tuple(sorted(order[k] + (points[0],))),) + order[k + 1:])
        found += [order[:k] + ((points[0],),) + order[k:] for k in range(len(order) + 1)]
    return found


def drawn_order(source, points):
    """An order of some points."""
    heights = {point: source.randint(1, len(points)) for point in points}
    return order_of(heights)


def lists_in(thing):
    """All lists and dicts in a value, itself too, one after another."""
    found = []
    waiting = [thing]
    while waiting:
        item = waiting.pop()
        if isinstance(item, (list, dict)):
            found.append(item)
        if isinstance(item, (list, tuple)):
            waiting.extend(item)
        if isinstance(item, dict):
            waiting.extend(item.values())
    return found


def share_a_list(one, other):
    """Whether some list or dict stands in both values."""
    seen = {id(item) for item in lists_in(one)}
    return any(id(item) in seen for item in lists_in(other))


def has_a_list_twice(thing):
    """Whether some list or dict stands twice in a value."""
    found = [id(item) for item in lists_in(thing)]
    return len(found) != len(set(found))


def spoil(thing):
    """Changes every list and dict in a value."""
    for item in lists_in(thing):
        if isinstance(item, list):
            item.append("spoiled")
            item.reverse()
        else:
            item.clear()


def order_of(lengths):
    """The order of a dict from points to lengths."""
    return tuple(
        tuple(sorted(point for point in lengths if lengths[point] == length))
        for length in sorted(set(lengths.values()))
    )


class Shadow:
    """Goes beside a Machine; ahead of each step tell() is asked, behind it done()."""

    def __init__(self, program, machine):
        self.program, self.machine = program, machine
        self.growing = machine.run()[0]
        self.told = {}
        self.known = {array for array, _ in machine.names().values()}
        self.seen = set(self.known)
        self.begins = [{"truth": False, "store": 0, "passed": {}, "steps": len(machine)}]
        self.begins[0]["entry"] = ((), False)

    def ask(self, query, *arguments):
        """What a query of the program returns; it is asked once."""
        key = (query.__name__, *arguments)
        if key not in self.told:
            self.told[key] = query(self.program, *arguments)
        return self.told[key]

    def outside(self, waiting):
        """The windows that are watched in so many of the calls that wait."""
        found = []
        for begun, (place, names) in list(zip(self.begins, self.machine.calls()))[:waiting]:
            v = self.ask(statement_at, place)[1]
            later = self.ask(watched, self.ask(after, place), begun["truth"])
            found += [names[name] for name in later if name != v]
        return found

    def row(self):
        """The row in which the last call stands."""
        begun = self.begins[-1]
        place = self.machine.here()
        points = {}
        for name, (array, length) in self.machine.names().items():
            if name in self.ask(alive, place):
                points.setdefault(array, {})[name] = length
        for point, (array, length) in begun["passed"].items():
            points.setdefault(array, {})[point] = length
        for array, told in points.items():
            told.update(self.more(array, begun, "+0" in told or "+1" in told))
        shape = tuple(sorted(order_of(told) for told in points.values()))
        return (place[0], begun["entry"], place[1], shape)

    def more(self, array, begun, passed):
        """The points of the room, and of what is watched outside, on an array."""
        told = {}
        if array in self.known:
            told["="] = self.machine.room_of(array)
        store = self.machine.store()
        newer = [length for other, length in store[begun["store"]:] if other == array]
        elder = [length for other, length in self.outside(len(self.begins) - 1) + store[:begun["store"]] if other == array]
        if newer:
            told["!"] = max(newer)
        if elder and passed:
            told["^"] = max(elder)
        return told

    def victim(self, data):
        """Of what the next step spoils with these data the first: the least name, else "!", else "^"; or None."""
        place, names = self.machine.here(), self.machine.names()
        statement = self.ask(statement_at, place)
        if statement is None or statement[0] not in ("put", "set"):
            return None
        array, length = names[statement[-1]]
        cell = length if statement[0] == "put" else data[0]
        if statement[0] == "put" and length + data[0] > self.machine.room_of(array):
            return None
        begun = self.begins[-1]
        later = self.ask(watched, self.ask(after, place), begun["truth"])
        mine = [name for name in later if name != statement[1] and self.sees(names[name], array, cell)]
        store = self.machine.store()
        if mine:
            return mine[0]
        if any(self.sees(window, array, cell) for window in store[begun["store"]:]):
            return "!"
        elder = store[:begun["store"]] + self.outside(len(self.begins) - 1)
        return "^" if any(self.sees(window, array, cell) for window in elder) else None

    def sees(self, window, array, cell):
        return window[0] == array and cell < window[1]

    def step(self, data):
        """Does a step with the Machine."""
        statement = self.ask(statement_at, self.machine.here())
        calls = len(self.machine.calls())
        truth = self.begins[-1]["truth"]
        place, names = self.machine.here(), self.machine.names()
        self.machine.step(data)
        for array, _ in self.machine.names().values():
            if array not in self.seen:
                self.seen.add(array)
                if self.growing == "exact" or statement[0] not in ("put", "copyput"):
                    self.known.add(array)
        if len(self.machine.calls()) < calls:
            self.begins.pop()
        if len(self.machine.calls()) > calls:
            told = statement[1] in self.ask(watched, self.ask(after, place), truth)
            passed = {point: names[name] for point, name in zip(("+0", "+1"), statement[3])}
            self.begins.append({
                "truth": told, "store": len(self.machine.store()), "passed": passed, "steps": len(self.machine)})
            self.begins[-1]["entry"] = (self.entry_shape(passed), told)

    def entry_shape(self, passed):
        points = {}
        for point, (array, length) in passed.items():
            points.setdefault(array, {})[point] = length
        for array, told in points.items():
            told.update(self.more(array, self.begins[-1], True))
        return tuple(sorted(order_of(told) for told in points.values()))

    def steps_of_call(self):
        """The steps since the last call began."""
        return len(self.machine) - self.begins[-1]["steps"]
