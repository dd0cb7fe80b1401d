"""Texts of statements, functions, addresses and deeds, as lines."""
from sparetails.statements import inner_bodies

DEEPER = "  "
# Stands ahead of each further body of an either; it is no statement.
OR = ("or",)


def listed(words):
    """The text of some words that are listed."""
    return ",".join(words) if words else "-"


def numbers_text(numbers):
    """The text of some numbers that are listed."""
    return listed([str(number) for number in numbers])


def address_text(address):
    """The text of an address."""
    return ".".join([str(at) for at in address])


def places_text(places):
    """The text of some places that are listed."""
    return listed([function + "@" + address_text(address) for function, address in places])


def _line(statement):
    """The line of a statement, without the lines of its bodies."""
    if statement[0] in ("either", "loop"):
        return statement[0]
    if statement[0] == "call":
        return " ".join([*statement[:3], listed(statement[3])])
    return " ".join(statement)


def _inside(statement, depth):
    """What stands below the line of a statement: a list of tuples (depth, statement or OR)."""
    told = []
    for b, body in enumerate(inner_bodies(statement)):
        if b > 0:
            told.append((depth, OR))
        told.extend([(depth + 1, item) for item in body])
    return told


def body_lines(body, depth):
    """The list of the lines of a body that is so deep."""
    told = []
    # The first one last, as on a stack: bodies may stand within very many others.
    waiting = [(depth, item) for item in reversed(list(body))]
    while waiting:
        at, item = waiting.pop()
        told.append(DEEPER * at + _line(item))
        waiting.extend(list(reversed(list(_inside(item, at)))))
    return told


def function_lines(name, told, depth):
    """The list of the lines of a function, a tuple (parameters, body, result), that is so deep."""
    parameters, body, result = told
    head = " ".join(["function", name, listed(parameters), result])
    return [DEEPER * depth + head, *body_lines(body, depth + 1)]


def program_text(program):
    """The text of a program."""
    told = []
    for name, function in program.functions().items():
        told.extend(function_lines(name, function, 0))
    return "\n".join(told)


def deed_text(deed):
    """The text of a deed: its lines in a log."""
    word, name = deed[0], deed[1]
    if word == "gone":
        return word + " " + name
    if word == "function":
        return "\n".join([word, *function_lines(name, deed[2], 1)])
    below = body_lines([deed[3]], 1) if len(deed) == 4 else []
    return "\n".join([" ".join([word, name, address_text(deed[2])]), *below])
