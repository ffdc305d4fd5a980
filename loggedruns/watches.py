"""Pairs of alike runs that go on: behind runs that are told by a log, or without one from the first stand on."""

from loggedruns.alikes import LIMIT, Alikes
from loggedruns.answers import run_to
from loggedruns.errors import NoRuns, TooMany
from loggedruns.fields import closed_table, closing, least_table
from loggedruns.minded import MindedField
from loggedruns.sheets import brief, is_fit
from loggedruns.walks import followed
from loggedruns.ways import ringed, searched
from loggedruns.words import is_tuple_of


class Fitting:
    """The runs that fit a sheet."""

    def __init__(self, walk, sheet):
        self.walk = walk
        self.sheet = sheet

    def ends(self):
        """For each node that these runs have at their ends, one of them."""
        field = MindedField(self.walk, brief(self.sheet), None)
        table = least_table(field, None)
        found = searched(table, [field.first()])
        return {(member[0], member[2]): run_to(found, member) for member in closing(field, table)}

    def has(self, run, trail):
        """Whether a run, of which this is the trail, is one of them."""
        return is_fit(self.walk.maker, self.sheet, trail.last()[0], trail.log(0), None)


class Watch:
    """The pairs of alike runs of a walk; source has the runs behind which they go on, None if there is no log."""

    def __init__(self, walk, source):
        self.walk = walk
        self.source = source
        self.alikes = Alikes(walk)
        ends = {walk.first(): ()} if source is None else source.ends()
        # For each node at which runs go on, a run that comes to it.
        self.begins = {self.alikes.number_of(node): ends[node] for node in ends}
        if not self.begins:
            raise NoRuns(None)

    def least(self):
        """The links of each member of the least table of pairs."""
        # So many pairs are members at once, without a step.
        if len(self.begins) * len(self.begins) > LIMIT:
            raise TooMany(LIMIT)
        return closed_table(self.alikes, self.starts(), LIMIT)

    def starts(self):
        """The pairs at which two runs go on."""
        return [(one, other) for one in self.begins for other in self.begins]

    def run(self, start, steps):
        """The run that goes on from a start by these steps."""
        return steps if self.source is None else (self.begins[start], steps)

    def trail(self, value):
        """The trail of the further steps of any value that is a run that goes on, None of other ones."""
        if self.source is None:
            return followed(self.walk, self.walk.first(), value)
        if not is_tuple_of(value, 2):
            return None
        ahead = followed(self.walk, self.walk.first(), value[0])
        if ahead is None or not self.source.has(value[0], ahead):
            return None
        return followed(self.walk, ahead.last(), value[1])

    def quiet(self, numbers):
        """For each of these nodes the links that begin quiet rounds; silent links lead from them to such alone."""
        return ringed({one: [(step, there) for step, entry, there in self.alikes.moves(one) if entry is None]
                       for one in numbers})


class Aged:
    """Pairs with an age: how many entries both logs got while the question was true of the first, most at most."""

    def __init__(self, watch, most):
        self.watch = watch
        self.most = most

    def starts(self):
        """The members at which two runs go on."""
        return [(one, other, 0) for one, other in self.watch.starts()]

    def links(self, member):
        """Where a member leads, each as (weight, step, step, member)."""
        one, other, age = member
        older = min(age + 1, self.most) if self.watch.alikes.is_true(one) else age
        return [(weight, first, second, (*pair, older if weight == 1 else age))
                for weight, first, second, pair in self.watch.alikes.links((one, other))]
