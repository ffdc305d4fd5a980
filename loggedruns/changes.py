"""Changes of makers: further log rows and flushes, another box, another recorder."""

from loggedruns.altering import with_box, with_rows
from loggedruns.builder import MOST_ROWS
from loggedruns.claims import is_label
from loggedruns.covers import is_ascending
from loggedruns.errors import BadChanges
from loggedruns.lines import has_form
from loggedruns.makers import Maker, Recorder, is_every, is_level
from loggedruns.programs import Program
from loggedruns.words import is_between, is_name

MOST_SHOWN = 2
MOST_BOX = 2

# The kinds of changes with the numbers of their parts, those of rows first.
LENGTHS = {"log": 6, "flush": 3, "box": 2, "level": 2, "every": 2, "names": 2}
ROW_KINDS = ("log", "flush")


def is_shown(program, value):
    """Whether any value is a shown value, as a string."""
    return isinstance(value, str) and has_form(value, "shown") and value.partition(".")[0] in program.cells


def is_log(program, change):
    """Whether the parts behind the place of a change are those of a log row."""
    _, _, _, level, word, shown = change
    if not is_level(level) or not is_name(word) or not isinstance(shown, tuple) or len(shown) > MOST_SHOWN:
        return False
    return all([is_shown(program, value) for value in shown])


def is_change(program, value):
    """Whether any value is a change."""
    if not isinstance(value, tuple) or not value or not isinstance(value[0], str) or value[0] not in LENGTHS:
        return False
    kind = value[0]
    if len(value) != LENGTHS[kind]:
        return False
    if kind in ROW_KINDS:
        if not is_label(program, value[1]) or value[2] not in ("ahead", "behind"):
            return False
        return kind == "flush" or is_log(program, value)
    if kind == "names":
        return isinstance(value[1], bool)
    if kind == "box":
        return is_between(value[1], 0, MOST_BOX)
    return is_level(value[1]) if kind == "level" else is_every(value[1])


def are_changes(program, value):
    """Whether any value is an ascending tuple of changes that can be made together."""
    if not isinstance(value, tuple) or not all([is_change(program, change) for change in value]):
        return False
    kinds = [change[0] for change in value if change[0] not in ROW_KINDS]
    if len(kinds) > len(set(kinds)) or not is_ascending(value):
        return False
    return len(program.rows) + len(value) - len(kinds) <= MOST_ROWS


def row_text(change):
    """The row that a change puts in."""
    if change[0] == "flush":
        return "flush"
    _, _, _, level, word, shown = change
    return " ".join(["log", str(level), word, *shown])


def changed(maker, changes):
    """The maker with all these changes."""
    program, recorder = maker.program, maker.recorder
    if not are_changes(program, changes):
        raise BadChanges(changes)
    rows = [(change[1], change[2], row_text(change)) for change in changes if change[0] in ROW_KINDS]
    others = {change[0]: change[1] for change in changes if change[0] not in ROW_KINDS}
    lines = with_rows(program, rows)
    if "box" in others:
        lines = with_box(program, lines, others["box"])
    kept = Recorder(level=others.get("level", recorder.level), every=others.get("every", recorder.every),
                    names=others.get("names", recorder.names))
    return Maker(Program("\n".join(lines)), kept)
