"""Looks at what a book tells: whether it is right by itself."""

from loggedruns.asking import shows, shows_reasoned
from loggedruns.lateness import shows_told
from loggedruns.until import watch_of_log


def shows_asked(book, log, seat, question, value):
    """Whether any value is one of the four answers of ask, right by itself."""
    return shows(book.shelf.inquiry(log, seat, question), value)


def shows_reasons(book, log, seat, question, value):
    """Whether any value is (left, numbers, word, tables): items and findings that are enough for what is told."""
    return shows_reasoned(book.shelf.inquiry(log, seat, question), value)


def shows_until(book, log, question, value):
    """Whether any value is a lateness behind a log, right by itself."""
    return shows_told(watch_of_log(book.shelf, log, question, None), value)
