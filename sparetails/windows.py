"""Windows on the first cells of arrays that grow in place."""
from sparetails.errors import BadRoom, NoCell, Wrong
from sparetails.kinds import is_integer, is_number


class Array:
    """The cells that were written, and how many there may be.

    It has no order and no equality of its own: == tells whether two are one.
    """

    def __init__(self, cells, size):
        self.cells = cells
        self.size = size


def _are_marks(thing):
    return isinstance(thing, list) and len(thing) > 0 and all([is_integer(mark) for mark in thing])


class Window:
    """An array with a length; neither ever changes, the marks in the cells do."""

    def __init__(self, marks, *, rule=None):
        if not _are_marks(marks):
            raise Wrong(0)
        self._array = Array(list(marks), len(marks))
        self._length = len(marks)
        self._rule = rule

    def __len__(self):
        # A range, as the subset asks for a call of len here, and marks() would cost a copy.
        return len(range(self._length))

    def __eq__(self, other):
        return isinstance(other, Window) and self._seen() == other._seen()

    def __contains__(self, x):
        return is_integer(x) and x in self._seen()

    def __iter__(self):
        raise TypeError("windows are not iterated over")

    def __getitem__(self, at):
        if not is_number(self._length, at):
            raise NoCell(at)
        return self._array.cells[at]

    def __setitem__(self, at, worth):
        if not is_number(self._length, at):
            raise NoCell(at)
        self._array.cells[at] = worth

    def __iadd__(self, other):
        return self.put(other)

    @property
    def room(self):
        """The room of the array."""
        return self._array.size

    @property
    def spare(self):
        """How many cells there are behind those that the window sees."""
        return self._array.size - self._length

    def _seen(self):
        return self._array.cells[:self._length]

    def _on(self, array, length):
        """Another window with the same rule."""
        told = Window([0], rule=self._rule)
        told._array = array
        told._length = length
        return told

    def _size_for(self, needed):
        rule = self._rule
        if rule is None:
            return needed
        size = rule(self._array.size, needed)
        if not is_integer(size) or size < needed:
            raise BadRoom(size)
        return size

    def marks(self):
        """The list of the marks that the window sees."""
        return self._seen()

    def shares(self, other):
        """Whether another window is on the same array."""
        return self._array == other._array

    def cut(self, many):
        """The window on the same array that sees the first many cells."""
        if not is_integer(many) or not 1 <= many <= self._length:
            raise NoCell(many)
        return self._on(self._array, many)

    def copied(self):
        """A window on a new array that sees the same marks."""
        return self._on(Array(self._seen(), self._length), self._length)

    def put(self, marks):
        """The window that sees marks behind those of this one: in place if the room lets them."""
        needed = self._length + len(marks)
        if needed <= self._array.size:
            self._array.cells[self._length:needed] = list(marks)
            return self._on(self._array, needed)
        size = self._size_for(needed)
        return self._on(Array(self._seen() + list(marks), size), needed)
