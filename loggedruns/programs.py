"""Programs: their texts, names and rows."""

from loggedruns.builder import Builder, first_wrong
from loggedruns.errors import BadProgram, Doubled, NoLabel, Unnamed
from loggedruns.naming import first_doubled, first_unnamed, names_of
from loggedruns.rows import entrance, link, resolve


def built(text):
    """The builder that took all lines of a text."""
    if not isinstance(text, str):
        raise BadProgram(0)
    builder = Builder()
    wrong = first_wrong(builder, text.split("\n"))
    if wrong is not None:
        raise BadProgram(wrong)
    doubled = first_doubled(builder.heads, builder.rows)
    if doubled is not None:
        raise Doubled(doubled)
    return builder


def number_of(heads, kind):
    """The number of the head of this kind, 0 without one."""
    for line in heads:
        if line.kind == kind:
            return int(line.words[0])
    return 0


class Program:
    """A program; rows are found by their lines, tops are the greatest values of the cells."""

    def __init__(self, text):
        builder = built(text)
        heads = builder.heads
        self.text = text
        self.cells = names_of(heads, "cell")
        self.locks = names_of(heads, "lock")
        self.hands = names_of(heads, "hand")
        self.parts = names_of(heads, "part")
        unnamed = first_unnamed(builder.rows, self)
        if unnamed is not None:
            raise Unnamed(unnamed)
        self.tops = tuple([int(line.words[1]) for line in heads if line.kind in ("cell", "keep")])
        self.kept = tuple([line.kind == "keep" for line in heads if line.kind in ("cell", "keep")])
        self.box = number_of(heads, "box")
        self.again = number_of(heads, "again")
        self.entrances = {body.owner: entrance(body) for body in builder.bodies}
        self.rows = {row.at: row for row in builder.rows}
        self.lines_of = {row.label: row.at for row in builder.rows if row.label is not None}
        self.labels = tuple(sorted(self.lines_of))
        for row in builder.rows:
            link(row)
            resolve(row, self)

    def __eq__(self, other):
        return isinstance(other, Program) and self.text == other.text

    def line(self, label):
        """The line of a label."""
        if not isinstance(label, str) or label not in self.lines_of:
            raise NoLabel(label)
        return self.lines_of[label]
