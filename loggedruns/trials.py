"""Trials: blocks behind which a book is as it was ahead of them, unless they are held."""


class Trial:
    """A block in which a book is used; held is None unless it is to stay as it is then."""

    def __init__(self, book):
        self.book = book
        self.held = None
        self.makers = ()
        self.logs = ()
        self.journal = ()
        self.shelf = None
        self.past = ()
        self.future = ()

    def hold(self):
        """The book stays as it is at the end of the block."""
        self.held = True

    def __enter__(self):
        self.makers = self.book.makers
        self.logs = self.book.logs
        self.journal = self.book.journal
        self.shelf = self.book.shelf
        self.past = self.book.past
        self.future = self.book.future
        return self

    def __exit__(self, kind, value, trace):
        book = self.book
        if kind is not None or self.held is None:
            book.makers = self.makers
            book.logs = self.logs
            book.journal = self.journal
            book.shelf = self.shelf
            book.past = self.past
            book.future = self.future
