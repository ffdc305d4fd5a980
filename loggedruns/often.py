"""How often a row is done in runs that fit."""

from loggedruns.covers import LIMIT
from loggedruns.deeds import line_done
from loggedruns.fields import Field, closing, counts, distances, least_table, useful
from loggedruns.heights import DEAD, are_greatest, are_least, told_heights
from loggedruns.sheets import check_end, check_sheet, is_fit, reads, spots_behind
from loggedruns.spots import first_spot
from loggedruns.stands import first_stand, traced
from loggedruns.ways import heavy_ring, highest, ring, searched, tight, way_to
from loggedruns.words import is_between, is_tuple_of


def field_and_line(maker, sheet, label, end):
    """The field of a sheet and an end, and the line of a label, which may be any values."""
    check_sheet(sheet)
    line = maker.program.line(label)
    check_end(end)
    return (Field(maker, sheet, end), line)


def weighed(table, line):
    """A table with a weight in front of each link: 1 if it is a step that does the row."""
    return {pair: [(1 if counts(pair, link[0], line) else 0, *link) for link in links]
            for pair, links in table.items()}


def run_of(links):
    """The steps of links with weights."""
    return tuple([link[1] for link in links if link[1] is not None])


def run_that_has(field, table, heights, number):
    """A run that fits along links of a weighed table that rise just by their weight, up to this height."""
    found = searched(tight(table, heights), [field.first()])
    goals = [pair for pair in found if heights[pair] == number and field.closes(pair)]
    _, links = way_to(found, goals[0])
    return run_of(links)


def fewest(maker, sheet, label, *, end=None):
    """How often the row is done at least, a run that has it, and heights that show it; None if no run fits."""
    field, line = field_and_line(maker, sheet, label, end)
    table = least_table(field, LIMIT)
    heights = distances(table, [field.first()], line)
    number = min([heights[pair] for pair in closing(field, table)], default=None)
    if number is None:
        return None
    return (number, run_that_has(field, weighed(table, line), heights, number), told_heights(heights))


def most(maker, sheet, label, *, end=None):
    """As fewest, how often it is done at most; ("endless", run, first, last) if there is no greatest number."""
    field, line = field_and_line(maker, sheet, label, end)
    whole = least_table(field, LIMIT)
    table = weighed(useful(field, whole), line)
    if not table:
        return None
    turn = heavy_ring(table)
    if turn is not None:
        return endless(field, table, turn)
    heights = highest(table)
    number = max([heights[pair] for pair in closing(field, table)])
    told = told_heights({pair: heights.get(pair, DEAD) for pair in whole})
    return (number, run_that_has(field, table, heights, number), told)


def endless(field, table, turn):
    """A run that comes to a pair, round to it again by a link that counts, and on to the end."""
    pair, link = turn
    _, ahead = way_to(searched(table, [field.first()]), pair)
    around = ring(table, pair, link)
    found = searched(table, [pair])
    _, behind = way_to(found, closing(field, found)[0])
    first = len(run_of(ahead))
    return ("endless", run_of([*ahead, *around, *behind]), first, first + len(run_of(around)))


def shows_fewest(maker, sheet, label, number, value, *, end=None):
    """Whether any value is heights by which in no run that fits the row is done fewer times."""
    field, line = field_and_line(maker, sheet, label, end)
    return are_least(field, value, number, line)


def shows_most(maker, sheet, label, number, value, *, end=None):
    """Whether any value is heights by which in no run that fits the row is done more times."""
    field, line = field_and_line(maker, sheet, label, end)
    return are_greatest(field, value, number, line)


def shows_endless(maker, sheet, label, value, *, end=None):
    """Whether any value is (run, first, last) by which the row can be done again and again."""
    _, line = field_and_line(maker, sheet, label, end)
    if not is_tuple_of(value, 3):
        return False
    run, first, last = value
    trail = traced(maker, first_stand(maker), run)
    if trail is None or not is_between(first, 0, len(run)) or not is_between(last, first + 1, len(run)):
        return False
    if trail.nodes[first] != trail.nodes[last] or not is_fit(maker, sheet, trail.last(), trail.log(0), end):
        return False
    if not any([line_done(trail.nodes[k], run[k]) == line for k in range(first, last)]):
        return False
    return any([comes_back(sheet, spot, trail.log(first, last)) and reads(sheet, spot, trail.log(last))
                for spot in spots_behind(sheet, [first_spot(sheet)], trail.log(0, first))])


def comes_back(sheet, spot, log):
    """Whether this log can be taken from a spot so that it is there again."""
    return spot in spots_behind(sheet, [spot], log)
