"""Recorders, and makers: programs whose logs recorders keep."""

from loggedruns.errors import BadMaker, BadRecorder
from loggedruns.programs import Program
from loggedruns.words import is_between


def is_level(value):
    """Whether any value is a level from which on a recorder can keep entries."""
    return is_between(value, 1, 3)


def is_every(value):
    """Whether any value is a number by which a recorder can lose entries."""
    return is_between(value, 0, 4) and value != 1


class Recorder:
    """Keeps a log: from which level on, each so many an entry lost, with the names of hands or without."""

    def __init__(self, *, level=1, every=0, names=True):
        if not is_level(level):
            raise BadRecorder(level)
        if not is_every(every):
            raise BadRecorder(every)
        if not isinstance(names, bool):
            raise BadRecorder(names)
        self.level = level
        self.every = every
        self.names = names

    def __eq__(self, other):
        return (isinstance(other, Recorder) and self.level == other.level
                and self.every == other.every and self.names == other.names)


class Maker:
    """A program with the recorder that keeps its log."""

    def __init__(self, program, recorder):
        if not isinstance(program, Program):
            raise BadMaker(program)
        if not isinstance(recorder, Recorder):
            raise BadMaker(recorder)
        self.program = program
        self.recorder = recorder

    def __eq__(self, other):
        return isinstance(other, Maker) and self.program == other.program and self.recorder == other.recorder
