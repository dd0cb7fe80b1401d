"""What exact and spare room make of a program."""
from sparetails.spoilings import is_plain
from sparetails.wrongruns import wrong_run


def plain_growings(program, *, most=1000):
    """The ascending list of the growings for which a program is plain."""
    # What is plain with spare room is plain with exact room, so there are no others.
    if not is_plain(program, "exact", most=most):
        return []
    return ["exact", "spare"] if is_plain(program, "spare", most=most) else ["exact"]


def by_spare_room(program, *, most=1000):
    """A wrong run with spare room if a program is plain for exact room alone, otherwise None."""
    if not is_plain(program, "exact", most=most):
        return None
    return wrong_run(program, "spare", most=most)
