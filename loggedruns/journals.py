"""Journals of books: read back, and what they told at each of their lines."""

from loggedruns.asking import asked
from loggedruns.books import Book
from loggedruns.commands import do_deed
from loggedruns.deedlines import book_in, deed_in
from loggedruns.errors import BadJournal, BadQuestion, LogError, NoLog, NoSeat
from loggedruns.makers import Maker
from loggedruns.programs import Program

GONE = "gone"


def are_texts(value):
    """Whether any value is a tuple of strings, one or more."""
    return isinstance(value, tuple) and len(value) > 0 and all([isinstance(line, str) for line in value])


def begun(line):
    """The book that the first line of a journal tells."""
    found = book_in(line)
    if not found:
        raise BadJournal(0)
    recorder, text = found[0]
    try:
        return Book(Maker(Program(text), recorder))
    except LogError:
        raise BadJournal(0) from None


def go_on(book, at, line):
    """Does the deed of a line, which has this number."""
    found = deed_in(line)
    if not found:
        raise BadJournal(at)
    word, parts = found[0]
    try:
        do_deed(book, word, parts)
    except LogError:
        raise BadJournal(at) from None


def shelves_of(lines):
    """The book that any value tells as a journal, and the shelves that it has behind each of its lines."""
    if not are_texts(lines):
        raise BadJournal(0)
    book = begun(lines[0])
    shelves = [book.shelf]
    for at in range(1, len(lines)):
        go_on(book, at, lines[at])
        shelves.append(book.shelf)
    return (book, shelves)


def read_journal(lines):
    """The book to which the deeds of any value, a journal, lead."""
    book, _ = shelves_of(lines)
    return book


def word_at(shelf, log, seat, question):
    """The word of ask at a shelf, gone without this log and seat, unknown without this question."""
    try:
        return asked(shelf.inquiry(log, seat, question))[0]
    except (NoLog, NoSeat):
        return GONE
    except BadQuestion:
        return "unknown"


def course(lines, log, seat, question):
    """(number of lines, word) for each number of first lines behind which the word of ask is another one."""
    _, shelves = shelves_of(lines)
    found, last = [], GONE
    # Behind the first line there are no logs.
    for at in range(1, len(shelves)):
        # Most lines are of other logs.
        if not shelves[at].has_same(shelves[at - 1], log):
            word = word_at(shelves[at], log, seat, question)
            if word != last:
                found.append((at + 1, word))
            last = word
    return tuple(found)
