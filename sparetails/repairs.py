"""Repairs: places at which takes, cuts and puts have to copy so that a program is plain."""
from sparetails.edits import exchanged
from sparetails.errors import NoPlace, TooMany
from sparetails.places import all_places
from sparetails.searches import Search, sets_of
from sparetails.spoilings import is_plain
from sparetails.statements import copying, sharing
from sparetails.wrongruns import is_wrong_run, wrong_run

MOST_OPEN = 8


def _turned(program, place, turn):
    """What copying, or sharing, makes of the statement at a place; None if there is no such statement."""
    statement = program.spot_at(place).statement if program.has_place(place) else None
    return None if statement is None else turn(statement)


def repaired(program, repair):
    """The Program in which the statements at the places of a repair copy."""
    for place in repair:
        if _turned(program, place, copying) is None:
            raise NoPlace(place)
    return exchanged(program, {place: _turned(program, place, copying) for place in repair})


def open_places(program):
    """The ascending list of the places of all takes, cuts and puts to which a run can come."""
    # All functions can end, so a run can come to all places of a function that it can come to.
    reached = program.reached()
    return [place for place in all_places(program) if place[0] in reached and _turned(program, place, copying)]


def _few_places(program):
    """The open places; TooMany if there are more than can be tried."""
    places = open_places(program)
    if len(places) > MOST_OPEN:
        raise TooMany(MOST_OPEN)
    return places


def _members(places, one):
    """The tuple of those places that are in a set of them."""
    return tuple([place for k, place in enumerate(places) if one >> k & 1])


def _searched(program, growing, most):
    """A tuple of the lists of all least repairs, and of all greatest ones with which the program is not plain."""
    places = _few_places(program)
    if is_plain(program, growing, most=most):
        return [()], []

    def ask(one):
        if one == 0:
            return False
        try:
            return is_plain(repaired(program, _members(places, one)), growing, most=most)
        except TooMany:
            # It may be that this one need not be looked at.
            return None

    search = Search(len(places), ask)
    if not search.is_settled():
        raise TooMany(most)
    goods = sorted([_members(places, one) for one in search.least()])
    return goods, sorted([_members(places, one) for one in search.greatest()])


def repairs(program, growing, *, most=1000):
    """The ascending list of all least repairs that make a program plain."""
    goods, _ = _searched(program, growing, most)
    return goods


def cheapest(program, growing, prices, *, most=1000):
    """The tuple (price, repairs) of the least price of a repair, and the least repairs that have it; or None."""
    goods, _ = _searched(program, growing, most)
    sums = {good: sum([prices.get(place, 1) for place in good]) for good in goods}
    if not goods:
        return None
    least = min(list(sums.values()))
    return (least, [good for good in goods if sums[good] == least])


def repair_paper(program, growing, *, most=1000):
    """The tuple (goods, bads) of the least repairs, and the greatest that are not enough, each with a wrong run."""
    goods, bads = _searched(program, growing, most)
    return goods, [(bad, wrong_run(repaired(program, bad), growing, most=most)) for bad in bads]


def _is_repair(program, thing):
    """Whether thing, any value, is a repair."""
    if not isinstance(thing, tuple) or not all([program.has_place(place) for place in thing]):
        return False
    if not all([_turned(program, place, copying) for place in thing]):
        return False
    return list(thing) == sorted(set(thing))


def _is_bad(program, growing, thing):
    """Whether thing, any value, is a tuple of a repair and a wrong run of the program with it."""
    if not isinstance(thing, tuple) or len(thing) != 2 or not _is_repair(program, thing[0]):
        return False
    return is_wrong_run(repaired(program, thing[0]), growing, thing[1])


def _is_told(repair, goods, bads):
    """Whether a repair has all places of one of goods, or places of one of bads alone."""
    if [good for good in goods if all([place in repair for place in good])]:
        return True
    return bool([bad for bad, _ in bads if all([place in bad for place in repair])])


def _are_enough(program, growing, goods, most):
    """Whether the program is plain with each of some repairs."""
    too_great = False
    for good in goods:
        try:
            if not is_plain(repaired(program, good), growing, most=most):
                return False
        except TooMany:
            # Another one that is not enough may still tell.
            too_great = True
    if too_great:
        raise TooMany(most)
    return True


def is_repair_paper(program, growing, goods, bads, *, most=1000):
    """Whether goods and bads, any values, show of each repair made of open places whether it is enough."""
    places = _few_places(program)
    if not isinstance(goods, list) or not all([_is_repair(program, good) for good in goods]):
        return False
    if not isinstance(bads, list) or not all([_is_bad(program, growing, bad) for bad in bads]):
        return False
    if not all([_is_told(_members(places, one), goods, bads) for one in sets_of(len(places))]):
        return False
    return _are_enough(program, growing, goods, most)


def idle(program, growing, *, most=1000):
    """The ascending list of the places of copies, cut or put ones too, that a plain program can do without."""
    if not is_plain(program, growing, most=most):
        return []
    told = []
    for place in all_places(program):
        statement = _turned(program, place, sharing)
        if statement is not None and is_plain(exchanged(program, {place: statement}), growing, most=most):
            told.append(place)
    return told
