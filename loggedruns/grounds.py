"""Which items of a sheet are enough for its answer."""

from loggedruns.answers import TRUTHS, answer, shows_sure
from loggedruns.covers import is_ascending
from loggedruns.errors import NoGrounds
from loggedruns.fields import least_table
from loggedruns.minded import MindedField, is_sure, minded_field
from loggedruns.recalls import Recall
from loggedruns.sheets import brief
from loggedruns.walks import Walk
from loggedruns.words import is_tuple_of, is_whole


def read_places(sheet):
    """The places (copy, index) of all items but gaps None, in sequence."""
    return [(copy, index) for copy in range(len(sheet)) for index in range(len(sheet[copy]))
            if sheet[copy][index] is not None]


def all_places(sheet, end):
    """The places of all that may be left out, the end last: it has the number of copies."""
    return read_places(sheet) + ([] if end is None else [(len(sheet), 0)])


def left_sheet(sheet, left):
    """The sheet with the items at these places alone, None for all others."""
    return tuple([tuple([sheet[copy][index] if (copy, index) in left else None for index in range(len(sheet[copy]))])
                  for copy in range(len(sheet))])


def left_field(walk, sheet, end, left):
    """The field of what is left at these places."""
    return MindedField(walk, left_sheet(sheet, left), end if (len(sheet), 0) in left else None)


def is_enough(field, truth):
    """Whether what is left is enough for this answer."""
    return is_sure(MindedField(field.walk, brief(field.sheet), field.end), truth)


def grounds(maker, sheet, question, *, end=None):
    """(left, word, table): places of which none can be left out, and the answer for what is there."""
    word = answer(maker, sheet, question, end=end)[0]
    if word not in TRUTHS:
        raise NoGrounds(word)
    walk = Walk(maker, Recall(maker, question))
    left = all_places(sheet, end)
    for place in all_places(sheet, end):
        fewer = [other for other in left if other != place]
        if is_enough(left_field(walk, sheet, end, fewer), TRUTHS[word]):
            left = fewer
    # The limit is of the sheet as it came alone.
    table = least_table(left_field(walk, sheet, end, left), None)
    return (tuple(left), word, tuple(sorted(table)))


def shows_grounds(maker, sheet, question, value, *, end=None):
    """Whether any value is (left, word, table): places that are enough for this answer, and a table for it."""
    field = minded_field(maker, sheet, question, end)
    if not is_tuple_of(value, 3):
        return False
    left, word, table = value
    if not are_places(left) or not all([place in all_places(sheet, end) for place in left]) or not is_ascending(left):
        return False
    return shows_sure(left_field(field.walk, sheet, end, left), word, table)


def are_places(value):
    """Whether any value is a tuple of pairs of integers."""
    if not isinstance(value, tuple) or not all([is_tuple_of(place, 2) for place in value]):
        return False
    return all([is_whole(number) for place in value for number in place])
