"""What texts tell: numbers, statements, functions and deeds. All raise NoText for what is no text of these."""
from sparetails.deeds import is_deed
from sparetails.errors import NoText
from sparetails.kinds import is_name
from sparetails.statements import is_head

MOST_DIGITS = 40
MOST_BLANKS = 200
DIGITS = "0123456789"


def pieces_in(thing, sign):
    """The list of what stands between each two signs of a text; thing may be any value."""
    if not isinstance(thing, str):
        raise NoText()
    return thing.split(sign)


def number_in(word):
    """The number that a word tells."""
    if not 1 <= len(word) <= MOST_DIGITS or not all([sign in DIGITS for sign in word]):
        raise NoText()
    if word[0] == "0" and len(word) > 1:
        raise NoText()
    return int(word)


def words_in(text):
    """The list of the words that are listed in a text."""
    return [] if text == "-" else text.split(",")


def numbers_in(text):
    """The tuple of the numbers that are listed in a text."""
    return tuple([number_in(word) for word in words_in(text)])


def address_in(text):
    """The address that a text tells."""
    return tuple([number_in(word) for word in pieces_in(text, ".")])


def _line_in(line):
    words = line.lstrip(" ")
    blanks = len(line) - len(words)
    if blanks > MOST_BLANKS or blanks & 1 == 1:
        raise NoText()
    return (blanks // 2, words)


def lines_in(text):
    """The list of the lines of a text, tuples (depth, the line without the blanks ahead of it)."""
    return [_line_in(line) for line in pieces_in(text, "\n")]


def parts_in(lines):
    """The list of the parts of some lines: each one that is not deep at all with the deeper ones behind it."""
    told = []
    for depth, words in lines:
        if depth == 0:
            told.append([])
        if not told:
            raise NoText()
        told[-1].append((depth, words))
    return told


def _plain_statement(line):
    words = line.split(" ")
    if words[0] == "call" and len(words) == 4:
        words[3] = tuple(words_in(words[3]))
    if not is_head(tuple(words)):
        raise NoText()
    return tuple(words)


def _add(body, line):
    """Puts what a line tells into a body; returns the deeper body that begins with it, or None."""
    if line == "either":
        body.append(("either", [[]]))
        return body[-1][1][0]
    if line == "loop":
        body.append(("loop", []))
        return body[-1][1]
    if line != "or":
        body.append(_plain_statement(line))
        return None
    if not body or body[-1][0] != "either":
        raise NoText()
    body[-1][1].append([])
    return body[-1][1][-1]


def body_in(lines, depth):
    """The body that lines tell of which the least deep ones are so deep."""
    told = []
    # The bodies into which a line can come, by how much deeper it is.
    within = [told]
    for at, line in lines:
        if not 0 <= at - depth < len(within):
            raise NoText()
        within[at - depth + 1:] = []
        inner = _add(within[-1], line)
        if inner is not None:
            within.append(inner)
    return told


def statement_in(lines, depth):
    """The one statement that lines tell."""
    body = body_in(lines, depth)
    if len(body) != 1:
        raise NoText()
    return body[0]


def function_in(lines, depth):
    """The tuple (name, (parameters, body, result)) that lines tell; perhaps it has more parameters than it may."""
    at, head = lines[0]
    words = head.split(" ")
    if at != depth or len(words) != 4 or words[0] != "function":
        raise NoText()
    parameters = words_in(words[2])
    if not all([is_name(name) for name in [words[1], *parameters, words[3]]]):
        raise NoText()
    return (words[1], (parameters, body_in(lines[1:], depth + 1), words[3]))


def _deed_of(words, below):
    """The deed with the words of a line and with the lines below it; what it returns need not be one."""
    if words == ["function"] and below:
        return ("function", *function_in(below, 1))
    if len(words) != 3:
        return tuple(words)
    told = (words[0], words[1], address_in(words[2]))
    return (*told, statement_in(below, 1)) if words[0] in ("in", "turn") else told


def deed_in(lines):
    """The deed that lines tell, the first of which is not deeper than nought."""
    words = lines[0][1].split(" ")
    below = lines[1:]
    deed = _deed_of(words, below)
    if not is_deed(deed) or (below and words[0] not in ("function", "in", "turn")):
        raise NoText()
    return deed
