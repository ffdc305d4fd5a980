"""Whether two makers write the same logs."""

from loggedruns.covers import is_ascending, is_closed
from loggedruns.ends import Ends
from loggedruns.fields import closed_table
from loggedruns.forms import Forms
from loggedruns.stands import first_stand, traced
from loggedruns.walks import bare_walk
from loggedruns.ways import searched, way_to
from loggedruns.words import is_between, is_tuple_of

LIMIT = 500


class Sames:
    """Pairs of the sets of stands that the runs of two makers with one log have at their ends."""

    def __init__(self, one, other):
        self.sides = [Ends(bare_walk(maker)) for maker in (one, other)]

    def first(self):
        """The pair of the log without entries."""
        return (self.sides[0].first(), self.sides[1].first())

    def links(self, pair):
        """Where a pair leads, each as (entry, pair)."""
        left, right = [side.after_entries(numbers) for side, numbers in zip(self.sides, pair)]
        return [(entry, (left.get(entry, ()), right.get(entry, ()))) for entry in self.entries_of(left, right)]

    def entries_of(self, left, right):
        """The entries that one of both can get, each once."""
        return list(left) + [entry for entry in right if entry not in left]

    def is_parted(self, pair):
        """Whether just one of both has a stand that is over."""
        return self.sides[0].has_over(pair[0]) != self.sides[1].has_over(pair[1])

    def told(self, pair):
        """A pair as (stands, stands)."""
        return tuple([tuple(sorted([side.alikes.nodes[one][0] for one in numbers]))
                      for side, numbers in zip(self.sides, pair)])

    def heard(self, side, stands):
        """The set of stands that are known to be such by their form."""
        alikes = self.sides[side].alikes
        return tuple(sorted([alikes.number_of((stand, ())) for stand in stands]))


def same_logs(one, other):
    """("same", table), or ("other", number, run): a run that is over, with a log that the other maker has not."""
    sames = Sames(one, other)
    table = closed_table(sames, [sames.first()], LIMIT)
    # They come with the shortest logs first.
    apart = [pair for pair in table if sames.is_parted(pair)]
    if not apart:
        return ("same", tuple(sorted([sames.told(pair) for pair in table])))
    _, links = way_to(searched(table, [sames.first()]), apart[0])
    number = 0 if sames.sides[0].has_over(apart[0][0]) else 1
    return ("other", number, run_over(sames.sides[number].alikes, [entry for entry, _ in links]))


class Writing:
    """The nodes (number of entries, number of a node) that runs come to while they write a log."""

    def __init__(self, alikes, log):
        self.alikes = alikes
        self.entries = log

    def links(self, member):
        """Where a member leads, each as (step, member)."""
        done, one = member
        awaited = self.entries[done:done + 1]
        return [(step, (done if entry is None else done + 1, there)) for step, entry, there in self.alikes.moves(one)
                if entry is None or [entry] == awaited]


def run_over(alikes, log):
    """A run that is over and has this log; there is one."""
    start = (0, alikes.number_of(alikes.walk.first()))
    found = searched(closed_table(Writing(alikes, log), [start], None), [start])
    goals = [(done, one) for done, one in found if done == len(log) and alikes.is_over(one)]
    _, links = way_to(found, goals[0])
    return tuple([step for step, _ in links])


def shows_same(one, other, value):
    """Whether any value is a table of sames, or a run that is over with a log that the other maker has not."""
    if is_tuple_of(value, 2) and value[0] == "same":
        return is_table_of_sames(one, other, value[1])
    if is_tuple_of(value, 3) and value[0] == "other" and is_between(value[1], 0, 1):
        _, number, run = value
        return is_alone((one, other)[number], (other, one)[number], run)
    return False


def is_table_of_sames(one, other, value):
    """Whether any value is a table of sames."""
    if not isinstance(value, tuple) or not all([is_tuple_of(member, 2) for member in value]):
        return False
    forms = [Forms(one), Forms(other)]
    for member in value:
        if not all([are_stands(forms[side], member[side]) for side in (0, 1)]):
            return False
    if not is_ascending(value):
        return False
    sames = Sames(one, other)
    members = {(sames.heard(0, left), sames.heard(1, right)): True for left, right in value}
    return is_closed(sames, members, [sames.first()]) and not any([sames.is_parted(pair) for pair in members])


def are_stands(forms, value):
    """Whether any value is an ascending tuple of stands by their form."""
    return isinstance(value, tuple) and all([forms.is_stand(stand) for stand in value]) and is_ascending(value)


def is_alone(maker, other, run):
    """Whether any value is a run of a maker that is over, with a log that no such run of another maker has."""
    trail = traced(maker, first_stand(maker), run)
    if trail is None:
        return False
    own, ends = Ends(bare_walk(maker)), Ends(bare_walk(other))
    if not own.alikes.is_over(own.alikes.number_of((trail.last(), ()))):
        return False
    numbers = ends.first()
    for entry in trail.log(0):
        numbers = ends.after_entries(numbers).get(entry, ())
    return not ends.has_over(numbers)
