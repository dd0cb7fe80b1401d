"""Programs in which other statements stand."""
from sparetails.programs import Program
from sparetails.statements import inner_bodies


def body_around(body, address):
    """The list in a body in which an address stands, itself and no copy; None if there is no such list."""
    told = body
    if len(address) & 1 == 0:
        return None
    for at, b in zip(address[:-1:2], address[1::2]):
        inner = inner_bodies(told[at]) if at < len(told) else []
        if b >= len(inner):
            return None
        told = inner[b]
    return told


def exchanged(program, statements):
    """The Program in which the statements of a dict stand at the places that are its keys."""
    functions = program.functions()
    for (function, address), statement in statements.items():
        body_around(functions[function][1], address)[address[-1]] = statement
    return Program(functions)
