"""Whether a question is settled by the log of each run that is over."""

from loggedruns.alikes import LIMIT, Alikes, sides
from loggedruns.claims import check_question
from loggedruns.covers import is_ascending, is_closed
from loggedruns.fields import closed_table
from loggedruns.recalls import Recall
from loggedruns.walks import Walk, followed
from loggedruns.ways import searched, way_to
from loggedruns.words import is_tuple_of


def alikes_of(maker, question):
    """The pairs of alike runs of a maker, and the one at which they begin; question may be any value."""
    check_question(maker.program, question)
    walk = Walk(maker, Recall(maker, question))
    alikes = Alikes(walk)
    first = alikes.number_of(walk.first())
    return (alikes, (first, first))


def part(alikes, pair):
    """Whether two runs with these nodes are over, the question being true of just one."""
    return alikes.are_over(*pair) and alikes.is_true(pair[0]) != alikes.is_true(pair[1])


def settled(maker, question):
    """("settled", table), or ("open", one, other) with two alike runs that part."""
    alikes, first = alikes_of(maker, question)
    table = closed_table(alikes, [first], LIMIT)
    apart = [pair for pair in table if part(alikes, pair)]
    if not apart:
        return ("settled", tuple(sorted([alikes.told(pair) for pair in table])))
    _, links = way_to(searched(table, [first]), apart[0])
    one, other = sides(links)
    return ("open", one, other)


def shows_settled(maker, question, value):
    """Whether any value is a table by which the question is settled, or two runs that part."""
    alikes, first = alikes_of(maker, question)
    if is_tuple_of(value, 2) and value[0] == "settled":
        return is_settling(alikes, first, value[1])
    if is_tuple_of(value, 3) and value[0] == "open":
        return are_parting(alikes.walk, value[1], value[2])
    return False


def is_settling(alikes, first, value):
    """Whether any value is a closed table of pairs in none of which two runs part."""
    pairs = alikes.numbers_of(value, 4)
    if pairs is None or not is_ascending(value) or not is_closed(alikes, {pair: True for pair in pairs}, [first]):
        return False
    return not any([part(alikes, pair) for pair in pairs])


def are_parting(walk, one, other):
    """Whether any values are two alike runs that are over, the question being true of just one."""
    trails = [followed(walk, walk.first(), one), followed(walk, walk.first(), other)]
    if None in trails or not all([walk.is_over(trail.last()) for trail in trails]):
        return False
    if trails[0].log(0) != trails[1].log(0):
        return False
    return walk.truth(trails[0].last()) != walk.truth(trails[1].last())
