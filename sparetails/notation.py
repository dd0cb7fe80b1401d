"""Texts of statements, programs, runs, shapes and deeds, and what they tell."""
from sparetails.book import Book
from sparetails.errors import Broken, NoText, TailError
from sparetails.kinds import is_growing, is_name
from sparetails.programs import Program
from sparetails.readers import address_in, deed_in, function_in, lines_in, numbers_in, parts_in, pieces_in, statement_in
from sparetails.shapes import COMMON, PASSED, is_shape
from sparetails.texts import body_lines, deed_text, listed, numbers_text, program_text


def show_statement(statement):
    """The text of a statement."""
    return "\n".join(body_lines([statement], 0))


def show_program(program):
    """The text of a Program."""
    return program_text(program)


def show_run(run):
    """The text of a run."""
    growing, begins, data = run
    return " ".join([growing, numbers_text(begins), ":", *[numbers_text(told) for told in data]])


def _show_order(order):
    return "<".join([listed(level) for level in order])


def show_shape(shape):
    """The text of a shape."""
    return " ".join([_show_order(order) for order in shape]) if shape else "-"


def show_deed(deed):
    """The text of a deed."""
    return deed_text(deed)


def show_log(book):
    """The text of the log of a Book."""
    return "\n".join([deed_text(deed) for deed in book.log()])


def read_statement(text):
    """The statement that a text tells."""
    return statement_in(lines_in(text), 0)


def read_program(text):
    """The Program that a text tells."""
    told = [function_in(lines, 0) for lines in parts_in(lines_in(text))]
    names = [name for name, _ in told]
    if names != sorted(set(names)):
        raise NoText()
    return Program(dict(told))


def read_address(text):
    """The address that a text tells."""
    return address_in(text)


def read_run(text):
    """The run, perhaps of no program, that a text tells."""
    words = pieces_in(text, " ")
    if len(words) < 3 or not is_growing(words[0]) or words[2] != ":":
        raise NoText()
    return (words[0], numbers_in(words[1]), tuple([numbers_in(word) for word in words[3:]]))


def _read_order(text):
    return tuple([tuple(level.split(",")) for level in text.split("<")])


def read_shape(text):
    """The shape that a text tells."""
    words = pieces_in(text, " ")
    shape = () if words == ["-"] else tuple([_read_order(word) for word in words])
    points = [point for order in shape for level in order for point in level]
    if not is_shape(shape) or not all([is_name(point) or point in (*PASSED, *COMMON) for point in points]):
        raise NoText()
    return shape


def read_deed(text):
    """The deed that a text tells."""
    parts = parts_in(lines_in(text))
    if len(parts) != 1:
        raise NoText()
    return deed_in(parts[0])


def _do(book, at, deed):
    """Does the deed with the number at, or tells that it cannot be done."""
    try:
        book.do(deed)
    except TailError:
        raise Broken(at) from None


def read_log(program, text):
    """The Book of a Program with the log that a text tells."""
    deeds = [] if text == "" else [deed_in(lines) for lines in parts_in(lines_in(text))]
    book = Book(program)
    for at, deed in enumerate(deeds):
        _do(book, at, deed)
    return book
