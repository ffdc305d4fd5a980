"""A desk: a book that is spoken to by lines."""

from loggedruns.commands import do_deed
from loggedruns.deedlines import deed_in, parts_in
from loggedruns.errors import BadCommand
from loggedruns.journals import read_journal
from loggedruns.texts import show_items

# The parts of each question behind its word.
QUERIES = {
    "ask": ("number", "number", "question"),
    "makers": ("number", "number"),
    "writers": ("number", "number", "number"),
    "reasons": ("number", "number", "question"),
    "until": ("number", "question"),
    "sheet": ("number",),
    "suspects": ("question",),
}


def joined(words):
    """Words parted by blanks, - for none."""
    return " ".join(words) if words else "-"


def tell_ask(book, parts):
    log, seat, question = parts
    return book.ask(log, seat, question)[0]


def tell_makers(book, parts):
    log, seat = parts
    return joined([str(number) for number in book.makers_of(log, seat)])


def tell_writers(book, parts):
    log, copy, index = parts
    return joined([str(number) for number in book.writers(log, copy, index)])


def tell_reasons(book, parts):
    log, seat, question = parts
    left, numbers, _, _ = book.reasons(log, seat, question)
    places, findings = [f"{copy}:{index}" for copy, index in left], [str(number) for number in numbers]
    return " / ".join([joined(places), joined(findings)])


def tell_until(book, parts):
    log, question = parts
    told = book.until(log, question)
    return f"held {told[1]}" if told[0] == "held" else told[0]


def tell_sheet(book, parts):
    log = parts[0]
    end = book.end_of(log)
    return " // ".join([*[show_items(copy) for copy in book.sheet_of(log)], "any" if end is None else end])


def tell_suspects(book, parts):
    return joined([f"{log}:{seat}:{word}" for log, seat, word in book.suspects(parts[0])])


TELLERS = {
    "ask": tell_ask,
    "makers": tell_makers,
    "writers": tell_writers,
    "reasons": tell_reasons,
    "until": tell_until,
    "sheet": tell_sheet,
    "suspects": tell_suspects,
}


def query_in(line):
    """The (word, parts) of the question that a line asks, in a list."""
    words = line.split(" ")
    if words[0] not in QUERIES:
        return []
    return [(words[0], parts) for parts in parts_in(QUERIES[words[0]], words[1:])]


class Desk:
    """The book of a journal, and what is said to it."""

    def __init__(self, lines):
        self.book = read_journal(lines)

    def say(self, line):
        """Does the deed, or answers the question, that any value tells as a line."""
        if not isinstance(line, str):
            raise BadCommand(line)
        for word, parts in deed_in(line):
            number = do_deed(self.book, word, parts)
            return "done" if number is None else str(number)
        for word, parts in query_in(line):
            tell = TELLERS[word]
            return tell(self.book, parts)
        raise BadCommand(line)
