"""Covers: closed tables of pairs (stand, spot), which leave no run out."""

from loggedruns.fields import field_of, least_table
from loggedruns.forms import Forms

LIMIT = 2000


def cover(maker, sheet, *, end=None):
    """The least cover."""
    field = field_of(maker, sheet, end)
    return tuple(sorted(least_table(field, LIMIT)))


def shows_cover(maker, sheet, value, *, end=None):
    """Whether any value is a cover."""
    return is_cover(field_of(maker, sheet, end), value)


def is_cover(field, value):
    """Whether any value is a cover of a field."""
    if not are_members(field, value) or not is_ascending(value):
        return False
    return is_closed(field, {member: True for member in value}, [field.first()])


def are_members(field, value):
    """Whether any value is a tuple of members of a field, by their forms."""
    if not isinstance(value, tuple):
        return False
    forms = Forms(field.maker)
    return all([field.is_member(forms, member) for member in value])


def is_ascending(members):
    """Whether members of one form are ascending, none twice."""
    return all([members[k] < members[k + 1] for k in range(len(members) - 1)])


def is_closed(field, members, starts):
    """Whether a dict of members has the starts, and all to which links lead from its members."""
    if not all([start in members for start in starts]):
        return False
    return all([link[-1] in members for member in members for link in field.links(member)])
