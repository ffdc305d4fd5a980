"""Which line can stand behind which: the nest of bodies that the lines make."""

from loggedruns.lines import read_line
from loggedruns.rows import Body, Row

STAGES = {"cell": 0, "keep": 0, "lock": 1, "box": 2, "again": 3, "hand": 4, "part": 5}
MOST_HEADS = (3, 2, 1, 1, 2, 2)
HAND_STAGE = 4
MOST_ROWS = 20
MOST_LABELS = 8
MOST_DEEP = 4
OPENERS = ("if", "while", "try")


class Builder:
    """Takes lines one by one, as long as each of them can stand where it comes."""

    def __init__(self):
        self.heads = []
        self.bodies = []
        self.rows = []
        self.labelled = 0
        self.stage = 0
        self.counts = [0, 0, 0, 0, 0, 0]
        # The bodies that the next line may still be in, the outermost first.
        self.nest = []
        # Whether the last line has a body that has no row so far.
        self.bare = False

    def take(self, line):
        """Whether this line can stand here; if so, it does."""
        if line.depth == 0:
            return self.take_head(line)
        if not self.is_reached(line):
            return False
        if line.kind in ("else", "catch"):
            self.open_other(line)
            return True
        return self.take_row(line)

    def take_head(self, line):
        stage = STAGES[line.kind]
        if self.bare or stage < self.stage or self.counts[stage] == MOST_HEADS[stage]:
            return False
        if stage > HAND_STAGE and self.counts[HAND_STAGE] == 0:
            return False
        if self.is_caught_lacking(1):
            return False
        self.stage = stage
        self.counts[stage] += 1
        self.heads.append(line)
        if stage >= HAND_STAGE:
            body = Body(line.kind, None, line.words[0])
            self.bodies.append(body)
            self.nest = [body]
            self.bare = True
        return True

    def is_caught_lacking(self, depth):
        """Whether a try without its catch would be left for a line of this depth."""
        return any([body.kind == "try" for body in self.nest[depth:]])

    def is_reached(self, line):
        """Whether the open bodies let a line of this kind stand so deep."""
        depth = line.depth
        if depth > len(self.nest) or depth > MOST_DEEP:
            return False
        if self.bare:
            return depth == len(self.nest) and line.kind not in ("else", "catch")
        if self.is_caught_lacking(depth + 1):
            return False
        closed = self.nest[depth].kind if depth < len(self.nest) else ""
        if line.kind == "else":
            return closed == "if"
        return (line.kind == "catch") == (closed == "try")

    def open_other(self, line):
        """The else of an if, or the catch of a try."""
        row = self.nest[line.depth].row
        body = Body(line.kind, row, row.body.owner)
        row.other = body
        if line.words:
            row.word = line.words[0]
        self.open_body(line.depth, body)

    def open_body(self, depth, body):
        self.nest = [*self.nest[:depth], body]
        self.bare = True

    def take_row(self, line):
        if len(self.rows) == MOST_ROWS:
            return False
        if line.label is not None:
            if self.labelled == MOST_LABELS:
                return False
            self.labelled += 1
        self.nest = self.nest[:line.depth]
        self.bare = False
        row = Row(line, self.nest[-1])
        self.rows.append(row)
        row.body.rows.append(row)
        if row.kind in OPENERS:
            row.main = Body(row.kind, row, row.body.owner)
            self.open_body(line.depth, row.main)
        return True

    def is_whole_text(self):
        """Whether nothing lacks at the end."""
        return self.counts[HAND_STAGE] > 0 and not self.bare and not self.is_caught_lacking(1)


def first_wrong(builder, texts):
    """Gives the lines to the builder: the first one that cannot stand there, None if all can."""
    for at in range(len(texts)):
        line = read_line(at, texts[at])
        if line is None or not builder.take(line):
            return at
    return None if builder.is_whole_text() else len(texts)
