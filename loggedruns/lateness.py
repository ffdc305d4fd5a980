"""How late a lasting question is sure, of the log as it stands."""

from loggedruns.alikes import sides
from loggedruns.claims import check_question, is_lasting
from loggedruns.covers import is_ascending, is_closed
from loggedruns.errors import BadQuestion
from loggedruns.fields import closed_table
from loggedruns.recalls import Recall
from loggedruns.sheets import check_sheet
from loggedruns.walks import Walk
from loggedruns.watches import Aged, Fitting, Watch
from loggedruns.ways import heavy_ring, highest, ring, searched, way_to, within
from loggedruns.words import is_between, is_tuple_of, is_whole


def check_lasting(program, question):
    """Raises BadQuestion for any value that is no lasting question."""
    check_question(program, question)
    if not is_lasting(question):
        raise BadQuestion(question)


def watch_of(maker, question, sheet):
    """The watch for a lasting question, with or without a sheet, which may be any values."""
    check_lasting(maker.program, question)
    if sheet is not None:
        check_sheet(sheet)
    walk = Walk(maker, Recall(maker, question))
    return Watch(walk, None if sheet is None else Fitting(walk, sheet))


def is_apart(watch, one, other):
    """Whether the question is true of the first of two runs with these nodes alone."""
    return watch.alikes.is_true(one) and not watch.alikes.is_true(other)


def is_silent(watch, quiet, one, other):
    """Whether two alike runs with these nodes may go on for ever, or end, without a further entry."""
    return watch.alikes.are_over(one, other) or (bool(quiet[one]) and not watch.alikes.is_over(other))


def late(maker, question, *, sheet=None):
    """("held", n, table, pair), ("silent", one, first, other) or ("ever", one, first, other, start)."""
    return told_late(watch_of(maker, question, sheet))


def told_late(watch):
    """How late the question of a watch is sure, as late tells it."""
    table = watch.least()
    apart = {pair: True for pair in table if is_apart(watch, *pair)}
    quiet = watch.quiet([one for one, _ in table])
    for pair in apart:
        if is_silent(watch, quiet, *pair):
            return silence(watch, table, quiet, pair)
    inner = within(table, apart)
    turn = heavy_ring(inner)
    if turn is not None:
        return ever(watch, table, inner, turn)
    return held(watch, max([height + 1 for height in highest(inner).values()], default=0))


def silence(watch, table, quiet, pair):
    """Two runs that come to a pair, the first with its quiet round if it is not over."""
    start, links = way_to(searched(table, watch.starts()), pair)
    one, other = sides(links)
    around = ()
    if not watch.alikes.is_over(pair[0]):
        around = tuple([step for step, _ in ring(quiet, pair[0], quiet[pair[0]][0])])
    return ("silent", watch.run(start[0], one + around), len(one), watch.run(start[1], other))


def ever(watch, table, inner, turn):
    """Two runs that come to a pair, and round to it again by a link by which both logs get an entry."""
    pair, link = turn
    start, links = way_to(searched(table, watch.starts()), pair)
    one, other = sides(links)
    further, beside = sides(ring(inner, pair, link))
    return ("ever", watch.run(start[0], one + further), len(one), watch.run(start[1], other + beside), len(other))


def held(watch, most):
    """The late table for the least number that holds, with two runs that no lesser one lets."""
    aged = Aged(watch, most)
    table = closed_table(aged, aged.starts(), None)
    shown = tuple(sorted([(*watch.alikes.told((one, other)), age) for one, other, age in table]))
    if most == 0:
        return ("held", 0, shown, None)
    found = searched(table, aged.starts())
    goals = [(one, other, age) for one, other, age in found if age == most - 1 and is_apart(watch, one, other)]
    start, links = way_to(found, goals[0])
    one, other = sides(links)
    return ("held", most, shown, (watch.run(start[0], one), watch.run(start[1], other)))


def shows_late(maker, question, value, *, sheet=None):
    """Whether any value is a lateness that holds, a silent or an ever, right by itself."""
    return shows_told(watch_of(maker, question, sheet), value)


def shows_told(watch, value):
    """Whether any value is right by itself as told of a watch."""
    if is_tuple_of(value, 4) and value[0] == "held":
        _, most, table, pair = value
        if not is_whole(most) or not is_late_table(watch, most, table):
            return False
        return pair is None or (most > 0 and is_late_pair(watch, most - 1, pair))
    if is_tuple_of(value, 4) and value[0] == "silent":
        _, one, first, other = value
        return is_shown_silent(watch, watch.trail(one), first, watch.trail(other))
    if is_tuple_of(value, 5) and value[0] == "ever":
        _, one, first, other, start = value
        return is_shown_ever(watch, watch.trail(one), first, watch.trail(other), start)
    return False


def is_late_table(watch, most, value):
    """Whether any value is a late table that holds so many entries."""
    members = watch.alikes.numbers_of(value, 5)
    if members is None or not all([is_between(age, 0, most) for _, _, age in members]) or not is_ascending(value):
        return False
    aged = Aged(watch, most)
    if len(watch.begins) * len(watch.begins) > len(members):
        return False
    if not is_closed(aged, {member: True for member in members}, aged.starts()):
        return False
    quiet = watch.quiet([one for one, _, _ in members])
    return not any([is_apart(watch, one, other) and (age == most or is_silent(watch, quiet, one, other))
                    for one, other, age in members])


def is_late_pair(watch, number, value):
    """Whether any value is two alike runs, the first so late, of the second of which the question is not true."""
    if not is_tuple_of(value, 2):
        return False
    one, other = watch.trail(value[0]), watch.trail(value[1])
    if one is None or other is None or one.log(0) != other.log(0) or watch.walk.truth(other.last()):
        return False
    true = [k for k in range(len(one.nodes)) if watch.walk.truth(one.nodes[k])]
    return len(true) > 0 and len(one.log(true[0])) >= number


def part_at(watch, one, first, other):
    """Whether two trails are of alike runs, the question is true of the first behind any value that is a number of
    its steps, and it is not true of the other one."""
    if one is None or other is None or not is_between(first, 0, len(one.got)) or one.log(0) != other.log(0):
        return False
    return watch.walk.truth(one.nodes[first]) and not watch.walk.truth(other.last())


def is_shown_silent(watch, one, first, other):
    """Whether trails and a number show that no further entry need come."""
    if not part_at(watch, one, first, other) or one.log(first):
        return False
    over = [watch.walk.is_over(one.last()), watch.walk.is_over(other.last())]
    if first == len(one.got):
        return all(over)
    return one.nodes[first] == one.last() and not any(over)


def is_shown_ever(watch, one, first, other, start):
    """Whether trails and numbers show that any number of entries can come."""
    if not part_at(watch, one, first, other) or not is_between(start, 0, len(other.got)):
        return False
    if one.log(0, first) != other.log(0, start) or not one.log(first) or not other.log(start):
        return False
    return one.nodes[first] == one.last() and other.nodes[start] == other.last()
