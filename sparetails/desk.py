"""A desk: a program that is changed, and asked, by lines of text."""
from sparetails.book import Book
from sparetails.errors import NoCommand, NoText, Wrong
from sparetails.kinds import is_growing
from sparetails.needless import needless
from sparetails.notation import read_address, read_deed, read_run, show_deed, show_log, show_program
from sparetails.programs import Program
from sparetails.repairs import repairs
from sparetails.runs import is_run, wrong_look
from sparetails.spoilings import fewest_steps, is_plain
from sparetails.texts import listed, places_text
from sparetails.watching import alive, watched

TRUTHS = {"yes": True, "no": False}


def _number_text(number):
    return "-" if number is None else str(number)


def _repairs_text(told):
    return "\n".join([places_text(repair) for repair in told]) if told else "none"


def _read(reader, text):
    """What a reader takes a text for; NoCommand if it is no such text."""
    try:
        return reader(text)
    except NoText:
        raise NoCommand() from None


def _place(words):
    """The place of the second and the third word."""
    if words[1] == "":
        raise NoCommand()
    return (words[1], _read(read_address, words[2]))


class Desk:
    """A Book of a Program, to which lines are said."""

    def __init__(self, program):
        if not isinstance(program, Program):
            raise Wrong(0)
        self._book = Book(program)

    def execute(self, line):
        """Does what a line, any value, says, and returns the answer."""
        if not isinstance(line, str):
            raise NoCommand()
        words = line.split(" ")
        if len(words) == 1:
            return self._alone(line)
        if words[0] == "look":
            return self._look(line)
        if words[0] == "alive" and len(words) == 3:
            return listed(alive(self._book.program(), _place(words)))
        if words[0] == "watched" and len(words) == 4 and words[3] in TRUTHS:
            return listed(watched(self._book.program(), _place(words), TRUTHS[words[3]]))
        if words[0] in ("plain", "steps", "repairs") and len(words) == 2 and is_growing(words[1]):
            return self._of_growing(words[0], words[1])
        return places_text(self._book.do(_read(read_deed, line)))

    def _alone(self, word):
        """Does what a line without a blank says."""
        book = self._book
        if word == "back":
            return show_deed(book.back())
        if word == "again":
            return show_deed(book.again())
        if word == "program":
            return show_program(book.program())
        if word == "log":
            return show_log(book)
        if word == "needless":
            return places_text(needless(book.program()))
        raise NoCommand()

    def _of_growing(self, word, growing):
        """Says what holds of the program for a growing."""
        program = self._book.program()
        if word == "plain":
            return "yes" if is_plain(program, growing) else "no"
        if word == "steps":
            return _number_text(fewest_steps(program, growing))
        return _repairs_text(repairs(program, growing))

    def _look(self, line):
        """Says which look of a run is wrong first."""
        program = self._book.program()
        run = _read(read_run, line[len("look "):])
        return _number_text(wrong_look(program, run)) if is_run(program, run) else "no"
