"""New makers of a book, from lines of the last one."""

from loggedruns.errors import BadLines, BadRecorder
from loggedruns.makers import Maker, Recorder
from loggedruns.programs import Program
from loggedruns.words import is_between


def are_lines(value):
    """Whether any value is a tuple of strings without line feeds."""
    return isinstance(value, tuple) and all([isinstance(line, str) and "\n" not in line for line in value])


def revised(maker, first, last, lines, recorder):
    """The maker with lines in the place of those from first up to last; all but the maker may be any values."""
    old = maker.program.text.split("\n")
    if not is_between(first, 0, len(old)):
        raise BadLines(first)
    if not is_between(last, first, len(old)):
        raise BadLines(last)
    if not are_lines(lines):
        raise BadLines(lines)
    if recorder is not None and not isinstance(recorder, Recorder):
        raise BadRecorder(recorder)
    text = "\n".join([*old[:first], *lines, *old[last:]])
    return Maker(Program(text), maker.recorder if recorder is None else recorder)
