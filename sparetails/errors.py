"""The errors of the package: each keeps what it was made of as its fields."""


class TailError(ValueError):
    """Every error of the package is one of these."""


class Wrong(TailError):
    """The argument with this place is not as described."""

    def __init__(self, place):
        self.place = place


class BadStatement(TailError):
    """What stands at this address of a function cannot stand there."""

    def __init__(self, function, address):
        self.function = function
        self.address = address


class Endless(TailError):
    """This function cannot end."""

    def __init__(self, function):
        self.function = function


class Unknown(TailError):
    """There is nothing of this name."""

    def __init__(self, name):
        self.name = name


class NoCell(TailError):
    """A window sees no such cell, or not so many."""

    def __init__(self, at):
        self.at = at


class BadRoom(TailError):
    """A rule returned what is no room for the cells that are needed."""

    def __init__(self, size):
        self.size = size


class Nothing(TailError):
    """There is nothing left to do, or to take back."""


class Unfit(TailError):
    """The data of a step are not what they may be, from this index on."""

    def __init__(self, at):
        self.at = at


class NoArray(TailError):
    """There is no array with this number."""

    def __init__(self, index):
        self.index = index


class Broken(TailError):
    """The step, or deed, with this number cannot be done."""

    def __init__(self, at):
        self.at = at


class NoPlace(TailError):
    """This is no place of the kind that is asked for."""

    def __init__(self, place):
        self.place = place


class TooMany(TailError):
    """There are more than this limit."""

    def __init__(self, limit):
        self.limit = limit


class NoFunction(TailError):
    """There is no function of this name that could stand for another one."""

    def __init__(self, name):
        self.name = name


class Unlike(TailError):
    """Two functions have not equally many parameters."""


class Full(TailError):
    """A log has no room for a further deed."""

    def __init__(self, limit):
        self.limit = limit


class NoDeed(TailError):
    """What was passed is no deed."""


class Refused(TailError):
    """This deed cannot be done with the program that stands there."""

    def __init__(self, deed):
        self.deed = deed


class NoEntry(TailError):
    """A log has not so many deeds."""

    def __init__(self, many):
        self.many = many


class NoText(TailError):
    """What was passed is the text of nothing."""


class NoCommand(TailError):
    """What was passed is no line that can be executed."""
