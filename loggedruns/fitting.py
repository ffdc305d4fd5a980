"""Runs that fit a sheet: the shortest one, the stands they come to, what gaps stand for."""

from loggedruns.covers import LIMIT, is_cover
from loggedruns.errors import NoItem, TooMany
from loggedruns.fields import closing, distances, field_of, least_table, turned, useful
from loggedruns.heights import are_least, told_heights
from loggedruns.sheets import check_sheet
from loggedruns.spots import is_gap
from loggedruns.words import is_between

MOST_FILLINGS = 200

# The parts of a link that are None where no step is done, and where the log gets nothing.
STEP = 0
ENTRY = 1


def least_run(field, table, left):
    """The least of the shortest runs that fit; left tells how many steps each pair needs."""
    pairs = [field.first()]
    run = []
    for number in reversed(range(left[field.first()])):
        found = [(step, target) for pair in without(STEP, table, pairs) for step, _, target in table[pair]
                 if step is not None and left.get(target, -1) == number]
        # All these pairs have one stand, that of the run so far: its steps can be compared.
        least = min([step for step, _ in found])
        run.append(least)
        pairs = [target for step, target in found if step == least]
    return tuple(run)


def without(part, table, pairs):
    """These pairs and all to which links lead from them in which this part is None."""
    queue = list(pairs)
    found = {}
    while queue:
        pair = queue.pop()
        if pair not in found:
            found[pair] = True
            queue.extend([link[2] for link in table[pair] if link[part] is None])
    return list(found)


def fitting(maker, sheet, *, end=None):
    """The shortest run that fits, or a cover in which no pair closes."""
    field = field_of(maker, sheet, end)
    table = least_table(field, LIMIT)
    left = distances(turned(table), closing(field, table))
    if not left:
        return ("none", tuple(sorted(table)))
    return ("run", least_run(field, table, left))


def shows_none(maker, sheet, value, *, end=None):
    """Whether any value is a cover in which no pair closes."""
    field = field_of(maker, sheet, end)
    return is_cover(field, value) and not closing(field, value)


def shortest(maker, sheet, *, end=None):
    """The shortest run that fits, with heights that show that none is shorter."""
    field = field_of(maker, sheet, end)
    table = least_table(field, LIMIT)
    left = distances(turned(table), closing(field, table))
    if not left:
        return None
    far = distances(table, [field.first()])
    return (least_run(field, table, left), told_heights(far))


def shows_shortest(maker, sheet, length, value, *, end=None):
    """Whether any value is heights that show that no run that fits is shorter than length."""
    return are_least(field_of(maker, sheet, end), value, length, None)


def check_item(sheet, copy, index):
    """Raises NoItem for any values that are no copy, no index of it or behind its items."""
    if not is_between(copy, 0, len(sheet) - 1):
        raise NoItem(copy)
    if not is_between(index, 0, len(sheet[copy])):
        raise NoItem(index)


def stands_at(maker, sheet, copy, index, *, end=None):
    """The stands that runs that fit have where the copy is read up to the index."""
    check_sheet(sheet)
    check_item(sheet, copy, index)
    field = field_of(maker, sheet, end)
    table = useful(field, least_table(field, LIMIT))
    return tuple(sorted({pair[0] for pair in table if pair[1][copy] == (index, 0)}))


def fillings(maker, sheet, copy, index, *, end=None):
    """The tuples of entries that an integer gap stands for in runs that fit."""
    check_sheet(sheet)
    check_item(sheet, copy, index)
    if index == len(sheet[copy]) or not is_gap(sheet[copy][index]):
        raise NoItem(index)
    field = field_of(maker, sheet, end)
    table = useful(field, least_table(field, LIMIT))
    found = {(): [pair for pair in table if pair[1][copy] == (index, 0)]}
    for _ in range(sheet[copy][index]):
        found = longer(table, found)
        # Each of these begins another filling, so there are as many of them at least.
        if len(found) > MOST_FILLINGS:
            raise TooMany(MOST_FILLINGS)
    return tuple(sorted(found))


def longer(table, found):
    """From the entries of a gap so far, with the pairs behind them, those with one entry more."""
    grown = {}
    for entries, pairs in found.items():
        for pair in without(ENTRY, table, pairs):
            for _, entry, target in table[pair]:
                if entry is not None:
                    grown.setdefault((*entries, entry), {})[target] = True
    return {entries: list(targets) for entries, targets in grown.items()}
