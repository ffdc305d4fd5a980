"""Rows and bodies of a program, and where each row leads."""

from loggedruns.lines import DIGITS


class Body:
    """Rows one below the other; row is the one it belongs to, None for a hand or a part."""

    def __init__(self, kind, row, owner):
        self.kind = kind
        self.row = row
        self.owner = owner
        self.rows = []


class Row:
    """A row; where it leads and what its names stand for is noted when all lines are read."""

    def __init__(self, line, body):
        self.at = line.at
        self.kind = line.kind
        self.words = line.words
        self.label = line.label
        self.body = body
        self.owner = body.owner
        self.order = len(body.rows)
        self.main = None
        self.other = None
        self.word = None

        self.behind = None
        self.inside = None
        self.aside = None
        self.nets = ()
        self.target = None
        self.source = None
        self.number = 0
        self.sign = ""
        self.level = 0
        self.shown = ()


def entrance(body):
    """The line at which a body begins."""
    return line_of(body.rows[0])


def line_of(row):
    """The line at which a row begins: a try is never next itself, its first row is."""
    return entrance(row.main) if row.kind == "try" else row.at


def behind_row(row):
    """The line that comes behind a row, None at the end of a hand or a part."""
    rows = row.body.rows
    if row.order + 1 < len(rows):
        return line_of(rows[row.order + 1])
    return behind_body(row.body)


def behind_body(body):
    """The line that comes behind the last row of a body."""
    if body.row is None:
        return None
    if body.row.kind == "while":
        return body.row.at
    return behind_row(body.row)


def nets_of(row):
    """Pairs (word, line) of the catches that may take a fault of a row, the innermost first."""
    nets = []
    body = row.body
    while body.row is not None:
        if body.kind == "try":
            nets.append((body.row.word, entrance(body.row.other)))
        body = body.row.body
    return tuple(nets)


def link(row):
    """Notes where a row leads."""
    row.behind = behind_row(row)
    row.nets = nets_of(row)
    if row.main is not None:
        row.inside = entrance(row.main)
        row.aside = row.behind if row.other is None else entrance(row.other)


def resolve(row, program):
    """Notes the numbers of the names that a row has."""
    kind, words = row.kind, row.words
    if kind in ("set", "add", "ask", "if", "while"):
        row.target = program.cells.index(words[0])
    if kind in ("take", "give"):
        row.target = program.locks.index(words[0])
    if kind in ("start", "join"):
        row.target = program.hands.index(words[0])
    if kind == "call":
        row.target = program.entrances[words[0]]
    if kind == "add":
        row.number = int(words[1])
    if kind in ("if", "while"):
        row.sign = words[1]
    if kind in ("set", "if", "while"):
        resolve_worth(row, words[-1], program)
    if kind == "log":
        row.level = int(words[0])
        row.shown = tuple([resolve_shown(word, program) for word in words[2:]])


def resolve_worth(row, word, program):
    """A value is the number itself, or the one of the cell source."""
    if word in DIGITS:
        row.number = int(word)
    else:
        row.source = program.cells.index(word)


def resolve_shown(word, program):
    """A shown value as (cell, mode)."""
    name, _, mode = word.partition(".")
    return (program.cells.index(name), mode)
