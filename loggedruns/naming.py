"""The names of a program: which stand twice, and which are asked for in vain."""

from loggedruns.lines import DIGITS, HEADS, ROWS

NAMED = ("cell", "lock", "hand", "part")


def names_of(heads, named):
    """The names of one kind, in their sequence."""
    return tuple([line.words[0] for line in heads if HEADS[line.kind][0] == named])


def first_doubled(heads, rows):
    """The first line with a name or a label that stood ahead, None without one."""
    names = [(line.words[0], line.at) for line in heads if HEADS[line.kind][0] in NAMED]
    labels = [(row.label, row.at) for row in rows if row.label is not None]
    return min(repeated(names) + repeated(labels), default=None)


def repeated(pairs):
    """The lines of those pairs (name, line) whose name stood ahead."""
    seen, found = {}, []
    for name, at in pairs:
        if name in seen:
            found.append(at)
        seen[name] = True
    return found


def first_unnamed(rows, program):
    """The first line with a name that there is not, None without one."""
    for row in rows:
        if not all([is_known(word, form, program) for word, form in zip(row.words, ROWS[row.kind])]):
            return row.at
    return None


def is_known(word, form, program):
    """Whether the program has what a word of a row names, if it names something."""
    if form == "worth":
        return word in DIGITS or word in program.cells
    if form == "shown":
        return word.partition(".")[0] in program.cells
    if form == "cell":
        return word in program.cells
    if form == "lock":
        return word in program.locks
    if form == "hand":
        return word in program.hands
    return form != "part" or word in program.parts
