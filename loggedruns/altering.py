"""The text of a program with rows put in, and with another box."""


def end_of(row):
    """The last line of a row, with all bodies that belong to it."""
    while row.main is not None:
        body = row.main if row.other is None else row.other
        row = body.rows[-1]
    return row.at


def blanks(line):
    """How many blanks stand in front of a line."""
    return len(line) - len(line.lstrip(" "))


def with_rows(program, rows):
    """The lines of a program with these rows put in, each as (label, where, text); rows of one place in sequence."""
    lines = program.text.split("\n")
    ahead = {at: [] for at in range(len(lines))}
    behind = {at: [] for at in range(len(lines))}
    for label, where, text in rows:
        row = program.rows[program.lines_of[label]]
        deep = blanks(lines[row.at])
        put = " " * deep + text
        if where == "ahead":
            ahead[row.at].append(put)
        else:
            # Behind one line may come rows of several bodies, the innermost first.
            behind[end_of(row)].append((-deep, len(behind[end_of(row)]), put))
    found = []
    for at in range(len(lines)):
        found.extend([*ahead[at], lines[at], *[put for _, _, put in sorted(behind[at])]])
    return found


def with_box(program, lines, size):
    """The lines of a program with a box of this size; with 0 without one."""
    others = [line for line in lines if not line.startswith("box ")]
    if size == 0:
        return others
    many = len(program.cells) + len(program.locks)
    return [*others[:many], f"box {size}", *others[many:]]
