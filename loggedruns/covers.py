"""Covers: closed tables of pairs (stand, spot), which leave no run out."""

from loggedruns.fields import field_of, least_table
from loggedruns.forms import Forms
from loggedruns.spots import is_spot
from loggedruns.words import is_tuple_of

LIMIT = 2000


def cover(maker, sheet, *, end=None):
    """The least cover."""
    field = field_of(maker, sheet, end)
    return tuple(sorted(least_table(field, LIMIT)))


def shows_cover(maker, sheet, value, *, end=None):
    """Whether any value is a cover."""
    return is_cover(field_of(maker, sheet, end), value)


def is_cover(field, value):
    """Whether any value is a cover of a field."""
    if not are_pairs(field, value) or not is_ascending(value):
        return False
    members = {pair: True for pair in value}
    if field.first() not in members:
        return False
    return all([target in members for pair in value for _, _, target in field.links(pair)])


def are_pairs(field, value):
    """Whether any value is a tuple of pairs (stand, spot), by their forms."""
    if not isinstance(value, tuple) or not all([is_tuple_of(pair, 2) for pair in value]):
        return False
    forms = Forms(field.maker)
    return all([forms.is_stand(pair[0]) and is_spot(field.sheet, pair[1]) for pair in value])


def is_ascending(members):
    """Whether members of one form are ascending, none twice."""
    return all([members[k] < members[k + 1] for k in range(len(members) - 1)])
