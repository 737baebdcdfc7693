"""Desks: books that are written and asked line by line."""

from plancalls.book import Book
from plancalls.deeds import is_deed
from plancalls.errors import NoCommand, NoText
from plancalls.notation import item_of, line_of, number_of_word, show_item, show_plan, show_schema, term_of, text_of
from plancalls.orders import how_many
from plancalls.sites import hidden, loose


class Desk:
    """A Book that lines write in and ask."""

    def __init__(self, schema):
        self._book = Book(schema)

    def execute(self, line):
        """Execute a line, any value, and return what it tells."""
        if not isinstance(line, str):
            raise NoCommand()
        if line in ("plan", "schema", "log", "plain", "orders"):
            return answer_of(self._book, line)
        if line == "back":
            return show_deed(self._book.back())
        if line == "again":
            return show_deed(self._book.again())
        self._book.do(read_deed(line))
        return "-"


def answer_of(book, line):
    """Return what a line that asks is told of a Book."""
    if line == "plan":
        return show_plan(book.plan())
    if line == "schema":
        return show_schema(book.schema)
    if line == "log":
        return text_of([show_deed(deed) for deed in book.log()])
    if line == "orders":
        return str(how_many(book.plan()))
    return plainness(book.plan())


def plainness(plan):
    """Return whether a plan is loose, hidden or plain, and where."""
    at = loose(plan)
    if at is not None:
        return f"loose {at}"
    found = hidden(plan)
    return "plain" if found is None else f"hidden {found[0]} {found[1]}"


def show_deed(deed):
    """Return the line of a deed."""
    if deed[0] == "put":
        return f"put {deed[1]} {show_item(deed[2])}"
    if deed[0] in ("show", "mark"):
        return line_of([deed[0]], deed[1])
    return line_of([], deed)


def read_deed(line):
    """Return the deed that a line writes."""
    try:
        deed = deed_of(line.split(" "))
    except NoText:
        raise NoCommand()
    if not is_deed(deed):
        raise NoCommand()
    return deed


def deed_of(words):
    """Return what words write as a deed is told, whether it is one or not."""
    word, parts = words[0], words[1:]
    if word == "put" and parts:
        return (word, number_of_word(parts[0]), item_of(parts[1:]))
    if word in ("take", "move", "keep"):
        return (word, *[number_of_word(part) for part in parts])
    if word == "show":
        return (word, tuple([term_of(part) for part in parts]))
    if word == "mark":
        return (word, tuple(parts))
    return tuple(words)
