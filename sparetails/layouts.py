"""How a body is laid out: what stands at each address, and where it leads."""
from sparetails.errors import BadStatement
from sparetails.statements import emptied, head_of, inner_bodies, is_head


class Spot:
    """A statement at an address, the address after it, those of its bodies."""

    def __init__(self, statement, after, entered):
        self.statement = statement
        self.after = after
        self.entered = entered

    def leads_to(self):
        """The addresses to which the statement can lead, perhaps some twice."""
        if self.statement is None:
            return []
        if self.statement[0] == "either":
            return list(self.entered)
        return [*self.entered, self.after]


def _fits(item, counts):
    if not is_head(item):
        return False
    if item[0] != "call":
        return True
    return item[2] != "main" and counts.get(item[2]) == len(item[3])


def _in_turn(stem, body, behind, copied):
    """What waits to be laid out for a body, the first item last, as on a stack."""
    last = len(body) - 1
    return [
        (stem + (at,), body[at], behind if at == last else stem + (at + 1,), copied)
        for at in range(last, -1, -1)
    ]


class Layout:
    """The copied body of a function, with its spots in the order of addresses.

    A table from addresses spares all that walk in bodies from recursion.
    """

    def __init__(self, function, body, counts):
        self.body = []
        self.spots = {}
        end = (len(body),)
        waiting = _in_turn((), body, end, self.body)
        while waiting:
            address, item, after, copied = waiting.pop()
            if not _fits(item, counts):
                raise BadStatement(function, address)
            waiting.extend(self._laid_out(address, item, after, copied))
        self.spots[end] = Spot(None, None, ())

    def _laid_out(self, address, item, after, copied):
        """Keeps a copy of one statement; returns what waits in its bodies."""
        fresh = emptied(item)
        copied.append(fresh)
        elder = inner_bodies(item)
        newer = inner_bodies(fresh)
        # A loop is come back to behind its body, an either is left.
        behind = address if item[0] == "loop" else after
        self.spots[address] = Spot(
            fresh, after, tuple([address + (b, 0) if body else behind for b, body in enumerate(elder)])
        )
        inside = []
        for b in range(len(elder) - 1, -1, -1):
            inside.extend(_in_turn(address + (b,), elder[b], behind, newer[b]))
        return inside

    def addresses(self):
        """The ascending list of all addresses, the end last."""
        return list(self.spots)

    def statements(self):
        """The list of all statements, inner ones too, in the order of addresses."""
        return [spot.statement for spot in self.spots.values() if spot.statement is not None]

    def outline(self):
        """What is equal just for equal bodies, without any nesting."""
        return [head_of(statement) for statement in self.statements()]

    def can_end(self, able):
        """Whether a way leads to the end on which only able functions are called."""
        seen = {(0,): True}
        waiting = [(0,)]
        while waiting:
            spot = self.spots[waiting.pop()]
            if spot.statement is None:
                return True
            if spot.statement[0] == "call" and spot.statement[2] not in able:
                continue
            for address in spot.leads_to():
                if address not in seen:
                    seen[address] = True
                    waiting.append(address)
        return False
