"""Which functions may stand for others."""
from sparetails.closing import Closure, Known
from sparetails.edits import exchanged
from sparetails.errors import NoFunction, Unlike
from sparetails.facts import Facts
from sparetails.orders import renamed
from sparetails.places import all_places
from sparetails.shapes import shape_of
from sparetails.steps import all_entries
from sparetails.watching import passed

RESULT = "*"


def _outcome(facts, end):
    """The shape of an end row without the name of the result."""
    result = facts.subject.result(end[0])
    return shape_of([renamed(order, {result: RESULT}) for order in end[3]])


def _outcomes(known, call, most):
    closure = Closure(known, call, most)
    if closure.spoiling():
        return None
    return sorted(set([_outcome(known.facts, end) for end in closure.ended[call]]))


def outcomes(program, growing, function, entry, *, most=1000):
    """The ascending list of the outcomes of a call, or None if a row to which it leads spoils."""
    return _outcomes(Known(Facts(program), growing), (function, entry), most)


def _check(program, one, other):
    """Raises NoFunction or Unlike if one cannot be compared with other."""
    names = [name for name in program.all_functions() if name != "main"]
    for name in (one, other):
        if name not in names:
            raise NoFunction(name)
    if len(program.parameters(one)) != len(program.parameters(other)):
        raise Unlike()


def _watched_bar(program, one, other):
    """The bar by a parameter that is watched in one alone, or None."""
    for told in (False, True):
        for k in passed(program, one, told):
            if k not in passed(program, other, told):
                return ("watched", told, k)
    return None


def _outcome_bar(program, one, other, growing, most):
    """The bar by what calls of both do, or None."""
    known = Known(Facts(program), growing)
    told = None
    for entry in all_entries(len(program.parameters(one))):
        its = _outcomes(known, (other, entry), most)
        if its is None:
            continue
        mine = _outcomes(known, (one, entry), most)
        if mine is None:
            return ("spoils", entry)
        more = [outcome for outcome in mine if outcome not in its]
        if more and told is None:
            # A later entry may still bar by what it spoils, and that counts first.
            told = ("outcome", entry, more[0])
    return told


def bar(program, one, other, growing, *, most=1000):
    """What bars one from standing for other, or None."""
    _check(program, one, other)
    told = _watched_bar(program, one, other)
    return _outcome_bar(program, one, other, growing, most) if told is None else told


def stands_for(program, one, other, growing, *, most=1000):
    """Whether one may stand for other."""
    return bar(program, one, other, growing, most=most) is None


def with_calls(program, other, one):
    """The Program in which each call of other, but in the body of one, is a call of one."""
    _check(program, one, other)
    statements = {}
    for place in all_places(program):
        statement = program.spot_at(place).statement
        if place[0] != one and statement is not None and statement[0] == "call" and statement[2] == other:
            statements[place] = ("call", statement[1], one, statement[3])
    return exchanged(program, statements)
