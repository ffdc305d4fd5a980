"""What several tests of books need."""

from loggedruns.books import Book
from loggedruns.journals import read_journal
from tests.common import TINY, Case, maker, strict

GO, HOT = ('h', 'go', ()), ('h', 'hot', ())
ASKED = ('asked', 'a', 1)
# A maker with names that no other one has.
PLAIN = maker('cell y 1\nhand k\n  d: log 1 u\n  e: ask y')


def content(book):
    """All that a book tells of itself."""
    logs = [(log, book.sheet_of(log), book.end_of(log), book.seats_of(log), book.findings_of(log)) for log in book.logs]
    return (book.makers, book.logs, book.journal, tuple(logs))


def shown(book):
    """The content of a book as a text by which values of other kinds differ, makers by their programs."""
    makers, *others = content(book)
    return strict([[(made.program.text, made.recorder.level, made.recorder.every, made.recorder.names) for made in makers],
                   *others])


def steps_back(book):
    """What a book is behind undoing all, one by one; it is a copy that is undone."""
    copy = read_journal(book.journal)
    found = []
    while True:
        try:
            copy.undo()
        except ValueError:
            return found
        found.append([part for k, part in enumerate(content(copy)) if k != 2])


class BookCase(Case):
    def book(self, made=None, seats=(None,), *items, end=None):
        """A book with a log of these items, which has the number 0."""
        book = Book(made or maker(TINY))
        book.begin_log(seats)
        for item in items:
            book.add(0, item)
        if end is not None:
            book.finish(0, end)
        return book

    def refused(self, book, error, value, deed, /, *words, **more):
        """The deed, a method of the book, raises just this error, and changes nothing."""
        ahead, past, future = shown(book), len(book.past), len(book.future)
        self.told(error, value, deed, *words, **more)
        self.same((shown(book), len(book.past), len(book.future)), (ahead, past, future))

    def returns(self, value, result):
        """A deed returns just this."""
        self.same(result, value)
