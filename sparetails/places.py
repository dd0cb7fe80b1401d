"""Places: what stands at them, and where the statements there lead."""
from sparetails.errors import NoPlace
from sparetails.statements import renewed


def check_place(program, place):
    """Raises NoPlace for what is no place of the program."""
    if not program.has_place(place):
        raise NoPlace(place)


def all_places(program):
    """The ascending list of all places of a program, ends too."""
    return [(function, address) for function in program.all_functions() for address in program.addresses(function)]


def statement_at(program, place):
    """The statement at a place, or None at an end."""
    statement = program.spot_at(place).statement
    return None if statement is None else renewed([statement])[0]


def after(program, place):
    """The place to which a statement leads that is done."""
    return (place[0], program.spot_at(place).after)


def entered(program, place, b):
    """The place to which the body with the index b of a statement is entered."""
    return (place[0], program.spot_at(place).entered[b])


def ways(program, place):
    """The ascending list of the places to which the statement at a place can lead."""
    return [(place[0], address) for address in sorted(set(program.spot_at(place).leads_to()))]
