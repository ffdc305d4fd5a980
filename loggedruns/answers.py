"""What a sheet tells of a question: that it is always true, never, or in some runs that fit only."""

from loggedruns.covers import LIMIT, is_cover
from loggedruns.fields import Field, closing, least_table
from loggedruns.minded import minded_field
from loggedruns.ways import searched, way_to
from loggedruns.words import is_tuple_of

TRUTHS = {"always": True, "never": False}


def answer(maker, sheet, question, *, end=None):
    """The word always, never, sometimes or none, with what shows it."""
    field = minded_field(maker, sheet, question, end)
    table = least_table(field, LIMIT)
    closers = {truth: [member for member in closing(field, table) if field.truth(member) == truth]
               for truth in (True, False)}
    if closers[True] and closers[False]:
        found = searched(table, [field.first()])
        return ("sometimes", run_to(found, closers[True][0]), run_to(found, closers[False][0]))
    for word, truth in TRUTHS.items():
        if closers[truth]:
            return (word, tuple(sorted(table)))
    return ("none", tuple(sorted({member[:2] for member in table})))


def run_to(found, member):
    """The run by which a search came to a member."""
    _, links = way_to(found, member)
    return tuple([step for step, _, _ in links if step is not None])


def shows_answer(maker, sheet, question, value, *, end=None):
    """Whether any value is one of the four answers, right by itself."""
    field = minded_field(maker, sheet, question, end)
    if is_tuple_of(value, 3) and value[0] == "sometimes":
        return field.truth_of(value[1]) is True and field.truth_of(value[2]) is False
    if not is_tuple_of(value, 2):
        return False
    if value[0] == "none":
        plain = Field(maker, sheet, end)
        return is_cover(plain, value[1]) and not closing(plain, value[1])
    return shows_sure(field, value[0], value[1])


def shows_sure(field, word, table):
    """Whether any values are always or never, and a cover with memories that shows it."""
    if not isinstance(word, str) or word not in TRUTHS:
        return False
    return is_cover(field, table) and all([field.truth(member) == TRUTHS[word] for member in closing(field, table)])
