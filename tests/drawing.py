"""What the tests draw: statements, programs and values of any kind, from a seeded source."""
from sparetails.errors import Endless
from sparetails.machine import Machine
from sparetails.places import statement_at
from sparetails.programs import Program

NAMES = ("p", "q", "r", "s")
ONE = ("new", "set", "keep", "look")
TWO = ("take", "cut", "put", "copy", "copycut", "copyput")

STRANGE = (
    None, True, False, 0, 1, -1, 10 ** 39, -(10 ** 39), "", "a", "main", "exact", "Exact", "aB", "a b",
    "abcdefgh", "abcdefghi", b"a", (), [], {}, (1,), [1], [True], ["s"], ("s",), {"s": 1}, ((),), [[]],
    ("new", "s"), ["new", "s"], ("look", "s"), ("either", []), ("either", [[]]), ("loop", []), ("loop",),
    ("call", "t", "f", ()), {"main": ([], [])}, {"main": ()}, ([], [], "s"), len, object,
)


def drawn_statement(source, counts, left, depth, names=NAMES):
    """A statement; counts tells the parameters of the functions to call, left[0] how many may come."""
    left[0] -= 1
    words = list(ONE + TWO) + ["put", "put", "take", "cut", "look", "look"] + (["call"] * 2 if counts else [])
    if depth and left[0] > 0:
        words += ["either", "loop", "loop"]
    word = source.choice(words)
    if word == "either":
        many = source.randint(1, 3)
        return ("either", [drawn_body(source, counts, left, depth - 1, names) for _ in range(many)])
    if word == "loop":
        return ("loop", drawn_body(source, counts, left, depth - 1, names))
    if word == "call":
        called = source.choice(sorted(counts))
        return ("call", source.choice(names), called, tuple(source.choice(names) for _ in range(counts[called])))
    return (word, *[source.choice(names) for _ in range(1 if word in ONE else 2)])


def drawn_body(source, counts, left, depth, names=NAMES, many=5):
    many = source.randint(0, many)
    body = []
    while len(body) < many and left[0] > 0:
        body.append(drawn_statement(source, counts, left, depth, names))
    return body


def drawn_functions(source, most=12, depth=3, names=NAMES):
    """What a program may be made of; it may be that some function cannot end."""
    others = ["f", "g"][:source.randint(0, 2)]
    counts = {name: source.randint(0, 2) for name in others}
    told = {}
    for name in ["main"] + others:
        many = counts.get(name, source.randint(0, 2))
        parameters = source.sample(names, many)
        body = drawn_body(source, counts, [most], depth, names, most)
        told[name] = (parameters, body, source.choice(names))
    return told


def drawn_program(source, most=12, depth=3, names=NAMES):
    while True:
        try:
            return Program(drawn_functions(source, most, depth, names))
        except Endless:
            continue


def nested(depth, inner, word="loop"):
    """A body that has the inner body within as many loops, or eithers."""
    body = inner
    for _ in range(depth):
        body = [("loop", body)] if word == "loop" else [("either", [[], body])]
    return body


def bounds_of_room(program, machine, many):
    """The bounds of the room that the next step asks for if so many marks are put, or None."""
    statement = statement_at(program, machine.here())
    if machine.run()[0] == "exact" or statement is None or statement[0] not in ("put", "copyput"):
        return None
    array, length = machine.names()[statement[2]]
    if statement[0] == "put" and length + many <= machine.room_of(array):
        return None
    return (length + many, 10 ** 40)


def drawn_data(source, program, machine):
    """Data with which a step can be done, with small numbers of marks and little spare room."""
    data = [source.randint(low, 3 if high == 1000 else high) for low, high in machine.wanted()]
    room = bounds_of_room(program, machine, data[0]) if data else None
    return tuple(data if room is None else data + [room[0] + source.randint(0, 4)])


def drawn_machine(source, program, growing, steps):
    """A Machine behind so many drawn steps, or fewer if the run is over."""
    machine = Machine(program, growing, [source.randint(1, 3) for _ in program.names("main")])
    while len(machine) < steps and not machine.is_over():
        machine.step(drawn_data(source, program, machine))
    return machine


def lists_in(thing):
    """All lists and dicts in a value, itself too, one after another."""
    found = []
    waiting = [thing]
    while waiting:
        item = waiting.pop()
        if isinstance(item, (list, dict)):
            found.append(item)
        if isinstance(item, (list, tuple)):
            waiting.extend(item)
        if isinstance(item, dict):
            waiting.extend(item.values())
    return found


def share_a_list(one, other):
    """Whether some list or dict stands in both values."""
    seen = {id(item) for item in lists_in(one)}
    return any(id(item) in seen for item in lists_in(other))


def has_a_list_twice(thing):
    """Whether some list or dict stands twice in a value."""
    found = [id(item) for item in lists_in(thing)]
    return len(found) != len(set(found))


def spoil(thing):
    """Changes every list and dict in a value."""
    for item in lists_in(thing):
        if isinstance(item, list):
            item.append("spoiled")
            item.reverse()
        else:
            item.clear()
