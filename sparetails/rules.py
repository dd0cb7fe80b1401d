"""Rules: which room a new array gets."""
from sparetails.errors import Wrong
from sparetails.kinds import is_integer


def exact(room, needed):
    """Just the room that is needed."""
    return needed


def doubled(room, needed):
    """Twice the elder room, or more if more is needed."""
    return max(needed, 2 * room)


class Told:
    """A rule that returns the integers of a list one after another."""

    def __init__(self, rooms):
        if not isinstance(rooms, list) or not all([is_integer(room) for room in rooms]):
            raise Wrong(0)
        self._rooms = list(rooms)
        self._asked = []

    def __call__(self, room, needed):
        at = len(self._asked)
        self._asked.append((room, needed))
        return self._rooms[at] if at < len(self._rooms) else needed

    def asked(self):
        """The list of the tuples (room, needed) with which the rule was called."""
        return list(self._asked)

    @property
    def left(self):
        """How many integers were not yet returned."""
        return max(0, len(self._rooms) - len(self._asked))
