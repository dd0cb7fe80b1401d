"""The arrays of a run, with their marks; what was done can be undone."""


class Memory:
    """Arrays numbered as they are made; a window is a tuple (array, length)."""

    def __init__(self):
        self._sizes = []
        self._cells = []
        self._marks_made = 0
        # A tuple (array, at, behind, marks) for each write: what stood ahead of it in the cells that it wrote.
        self._written_over = []

    def copied(self):
        """A Memory that holds the same and goes on by itself."""
        told = Memory()
        told._sizes = list(self._sizes)
        told._cells = [list(cells) for cells in self._cells]
        told._marks_made = self._marks_made
        told._written_over = list(self._written_over)
        return told

    def many_arrays(self):
        """How many arrays there are."""
        return len(self._sizes)

    def size_of(self, array):
        """The room of an array."""
        return self._sizes[array]

    def cells_of(self, array):
        """The list of the marks in the cells of an array that were written."""
        return list(self._cells[array])

    def seen(self, window):
        """The list of the marks that a window sees."""
        array, length = window
        return self._cells[array][:length]

    def new_marks(self, many):
        """The list of so many marks that were never there."""
        first = self._marks_made
        self._marks_made = first + many
        return list(range(first, first + many))

    def add(self, marks, size):
        """Makes an array with these marks; returns the window that sees them."""
        self._cells.append(list(marks))
        self._sizes.append(size)
        return (len(self._sizes) - 1, len(marks))

    def write(self, array, at, marks):
        """Writes marks into the cells of an array, from one on."""
        cells = self._cells[array]
        behind = at + len(marks)
        self._written_over.append((array, at, behind, cells[at:behind]))
        cells[at:behind] = list(marks)

    def moment(self):
        """What back_to takes, to come back to all as it is."""
        return (self._marks_made, len(self._sizes), len(self._written_over))

    def back_to(self, moment):
        """Undoes all that was done since a moment."""
        marks_made, arrays, writes = moment
        while len(self._written_over) > writes:
            array, at, behind, marks = self._written_over.pop()
            # Cells that were not there yet are gone again, as there are fewer marks than cells.
            self._cells[array][at:behind] = marks
        self._cells[arrays:] = []
        self._sizes[arrays:] = []
        self._marks_made = marks_made
