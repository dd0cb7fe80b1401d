"""A program that is changed deed by deed, with a log of the deeds."""
from sparetails.deeds import changed_places, done, is_deed, renewed_deed
from sparetails.errors import Full, NoDeed, NoEntry, Nothing, TailError, Wrong
from sparetails.kinds import is_number
from sparetails.programs import Program
from sparetails.texts import deed_text

MOST_DEEDS = 100


class Entry:
    """A deed of a log, with its text and the Program behind it; it never changes."""

    def __init__(self, deed, program):
        self.deed = renewed_deed(deed)
        # Unlike deeds, texts have no nesting: they are compared for them.
        self.text = deed_text(self.deed)
        self.outcome = program


class Book:
    """A Program, the log of the deeds that led to it, and the deeds that were undone.

    The lists that it holds never change, so that a block can come back to them: others come in their place.
    """

    def __init__(self, program):
        if not isinstance(program, Program):
            raise Wrong(0)
        self._first = program
        self._entries = []
        self._undone = []

    def __len__(self):
        return len(self._entries)

    def __eq__(self, other):
        return isinstance(other, Book) and self._first == other._first and self._texts() == other._texts()

    def _texts(self):
        return [entry.text for entry in self._entries]

    def _outcome(self, deed):
        """The Program that a deed, any value, would make of the one that stands here."""
        if not is_deed(deed):
            raise NoDeed()
        if len(self._entries) >= MOST_DEEDS:
            raise Full(MOST_DEEDS)
        return done(self.program(), deed)

    def do(self, deed):
        """Does a deed; returns the ascending list of the places at which another statement stands then."""
        program = self._outcome(deed)
        places = changed_places(self.program(), program)
        self._entries = [*self._entries, Entry(deed, program)]
        self._undone = []
        return places

    def back(self):
        """Undoes the last deed of the log and returns it."""
        if not self._entries:
            raise Nothing()
        entry = self._entries[-1]
        self._entries = self._entries[:-1]
        self._undone = [*self._undone, entry]
        return renewed_deed(entry.deed)

    def again(self):
        """Does the deed again that was undone last and returns it."""
        if not self._undone:
            raise Nothing()
        entry = self._undone[-1]
        self._undone = self._undone[:-1]
        self._entries = [*self._entries, entry]
        return renewed_deed(entry.deed)

    def program(self):
        """The Program to which the deeds of the log lead."""
        return self._entries[-1].outcome if self._entries else self._first

    def log(self):
        """The list of the deeds."""
        return [renewed_deed(entry.deed) for entry in self._entries]

    def past(self, many):
        """The Program behind the first deeds of the log, so many of them."""
        if not is_number(len(self._entries) + 1, many):
            raise NoEntry(many)
        return self._first if many == 0 else self._entries[many - 1].outcome

    def tried(self, deed):
        """Whether a deed, any value, could be done; nothing changes."""
        try:
            self._outcome(deed)
        except TailError:
            return False
        return True

    def copied(self):
        """A Book that stands where this one does, with what was undone too, and goes on by itself."""
        told = Book(self._first)
        told._entries = list(self._entries)
        told._undone = list(self._undone)
        return told

    def block(self, act):
        """Calls act with the Book and returns what it returns; if an error leaves it, nothing has changed."""
        entries, undone = self._entries, self._undone
        ended = None
        try:
            told = act(self)
            ended = True
        finally:
            if ended is None:
                self._entries, self._undone = entries, undone
        return told
