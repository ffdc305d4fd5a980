"""What has to be remembered of a run to tell whether a question is true of it."""

from loggedruns.claims import facts_in, holds
from loggedruns.stands import state
from loggedruns.words import is_between, is_tuple_of


def noted(program, fact):
    """A fact as (word, one, other), lines and numbers in the place of names."""
    word, one = fact[:2]
    other = fact[2] if len(fact) == 3 else None
    if word in ("did", "ahead", "asked"):
        one = program.lines_of[one]
    if word in ("was", "is", "by"):
        one = program.cells.index(one)
    if word == "at":
        one = program.hands.index(one)
    if word in ("ahead", "by", "at") and other is not None:
        other = program.lines_of[other]
    return (word, one, one if word == "fell" else other)


def first_mark(note):
    """The part of the memory of the empty run for a fact."""
    word, _, other = note
    return 1 if (word == "was" and other == 0) or (word == "by" and other is None) else 0


def greatest_mark(note):
    """The greatest number that can stand in a memory for a fact."""
    word, _, other = note
    if word in ("did", "fell", "spilt"):
        return other
    if word == "ahead":
        return 2
    return 1 if word in ("asked", "was", "by") else 0


def mark_did(note, mark, deed):
    return mark + 1 if deed.done == note[1] else mark


def mark_ahead(note, mark, deed):
    if mark != 0 or deed.done not in note[1:]:
        return mark
    return 1 if deed.done == note[1] else 2


def mark_asked(note, mark, deed):
    return 1 if deed.done == note[1] and deed.value == note[2] else mark


def mark_was(note, mark, deed):
    return 1 if deed.cells[note[1]] == note[2] else mark


def mark_by(note, mark, deed):
    _, cell, line = note
    if cell in deed.fresh:
        return 1 if line is None else 0
    if deed.given == cell:
        return 1 if deed.done == line else 0
    return mark


def mark_fell(note, mark, deed):
    return mark + 1 if deed.fell else mark


def mark_spilt(note, mark, deed):
    return mark + deed.spilt.count(note[1])


# Of the other facts nothing has to be remembered: they tell of the stand at the end.
MARKS = {
    "did": mark_did,
    "ahead": mark_ahead,
    "asked": mark_asked,
    "was": mark_was,
    "by": mark_by,
    "fell": mark_fell,
    "spilt": mark_spilt,
}


def mark_behind(note, mark, deed):
    """The part of a memory for a fact behind a deed."""
    if note[0] not in MARKS:
        return 0
    change = MARKS[note[0]]
    return min(change(note, mark, deed), greatest_mark(note))


class Recall:
    """The memory that a maker's runs have for a question."""

    def __init__(self, maker, question):
        self.maker = maker
        self.question = question
        self.notes = [noted(maker.program, fact) for fact in facts_in(question)]

    def first(self):
        """The memory of the empty run."""
        return tuple([first_mark(note) for note in self.notes])

    def learnt(self, memory, deed):
        """The memory behind a deed."""
        return tuple([mark_behind(note, mark, deed) for note, mark in zip(self.notes, memory)])

    def is_memory(self, value):
        """Whether any value is a memory by its form."""
        if not is_tuple_of(value, len(self.notes)):
            return False
        return all([is_between(mark, 0, greatest_mark(note)) for note, mark in zip(self.notes, value)])

    def truth(self, stand, memory):
        """Whether the question is true of runs with this stand and memory."""
        return holds(self.question, [self.is_so(note, mark, stand) for note, mark in zip(self.notes, memory)])

    def is_so(self, note, mark, stand):
        """Whether a fact is true."""
        word, one, other = note
        if word == "is":
            return stand[1][one] == other
        if word == "at":
            return stand[0][one][-1:] == (() if other is None else (other,))
        if word == "ended":
            return state(self.maker, stand) == one
        return mark == (other if word in ("did", "fell", "spilt") else 1)


class Recalls:
    """The memories that a maker's runs have for several questions."""

    def __init__(self, maker, questions):
        self.parts = [Recall(maker, question) for question in questions]

    def first(self):
        """The memories of the empty run."""
        return tuple([part.first() for part in self.parts])

    def learnt(self, memory, deed):
        """The memories behind a deed."""
        return tuple([part.learnt(memory[k], deed) for k, part in enumerate(self.parts)])

    def is_memory(self, value):
        """Whether any value is a tuple of memories by their forms."""
        if not is_tuple_of(value, len(self.parts)):
            return False
        return all([part.is_memory(value[k]) for k, part in enumerate(self.parts)])

    def truth(self, stand, memory):
        """For each of the questions whether it is true, as a tuple of bools."""
        return tuple([part.truth(stand, memory[k]) for k, part in enumerate(self.parts)])
