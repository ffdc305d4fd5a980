"""Weavings that are given, done again: which of them fit."""

from loggedruns.fields import closed_table
from loggedruns.spots import first_spot, is_read, passes
from loggedruns.stands import first_stand, traced
from loggedruns.walks import Walk, followed
from loggedruns.words import is_tuple_of, is_whole


class Replay:
    """A weaving of a field: nodes (done, spot, seen), done being how many steps of each run are done."""

    def __init__(self, field, trails, memories, numbers):
        self.field = field
        self.trails = trails
        # For each mind its memories along its run.
        self.memories = memories
        self.numbers = numbers
        # How many entries the log got by each run, behind each number of its steps.
        self.counts = [counts_of(trail.got) for trail in trails]

    def first(self):
        """The node at which nothing is done."""
        return self.marked((0,) * len(self.trails), first_spot(self.field.sheet), (False,) * len(self.field.marks))

    def stands(self, done):
        """The stands behind so many steps."""
        return tuple([trail.nodes[number] for trail, number in zip(self.trails, done)])

    def remembered(self, done):
        """The memories behind so many steps."""
        return tuple([memories[done[seat]] for (seat, _), memories in zip(self.field.minds, self.memories)])

    def marked(self, done, spot, seen):
        """The node with the marks that it had ahead, and those that it gets."""
        if not all(seen):
            seen = self.field.marked(self.stands(done), spot, self.remembered(done), seen)[3]
        return (done, spot, seen)

    def links(self, node):
        """Where a node leads, each as (node,)."""
        done, spot, seen = node
        if all(seen):
            # With all marks it does not matter when a step is done by which the log gets nothing.
            for seat, number in enumerate(done):
                if self.trails[seat].got[number:number + 1] == [None]:
                    return self.step(seat, node)
        found = [(self.marked(done, way, seen),) for way in passes(self.field.sheet, spot)]
        return found + [link for seat in range(len(done)) for link in self.step(seat, node)]

    def step(self, seat, node):
        """Where the next step of a run leads from a node, if it can be done there: one link or none."""
        done, spot, seen = node
        number = done[seat]
        if number == len(self.trails[seat].got):
            return []
        entry = self.trails[seat].got[number]
        way = self.field.way_behind(seat, spot, entry)
        if way is None or (entry is not None and self.awaited(done) != seat):
            return []
        return [(self.marked((*done[:seat], number + 1, *done[seat + 1:]), way, seen),)]

    def awaited(self, done):
        """The number of the run by which the log gets its next entry."""
        return self.numbers[sum([counts[number] for counts, number in zip(self.counts, done)])]

    def closes(self, node):
        """Whether the whole weaving is done here, the sheet is read, and all marks are got."""
        done, spot, seen = node
        return done == self.whole() and all(seen) and is_read(self.field.sheet, spot)

    def whole(self):
        """How many steps each run has."""
        return tuple([len(trail.got) for trail in self.trails])

    def fits(self):
        """Whether the weaving fits, with all marks."""
        return self.field.ends_so(self.stands(self.whole())) and any([self.closes(node) for node in self.all_nodes()])

    def all_nodes(self):
        """All nodes that it may come to."""
        return closed_table(self, [self.first()], None)


def counts_of(got):
    """How many entries there are behind each number of steps."""
    found = [0]
    for entry in got:
        found.append(found[-1] if entry is None else found[-1] + 1)
    return found


def replayed(field, value):
    """The replay of any value that is a weaving of the makers of a field, None of other ones."""
    if not is_tuple_of(value, 2) or not is_tuple_of(value[0], len(field.walks)):
        return None
    runs, numbers = value
    trails = [traced(walk.maker, first_stand(walk.maker), run) for walk, run in zip(field.walks, runs)]
    if None in trails or not isinstance(numbers, tuple) or not all([is_whole(number) for number in numbers]):
        return None
    if sorted(numbers) != [seat for seat, trail in enumerate(trails) for _ in trail.log(0)]:
        return None
    return Replay(field, trails, [remembered_along(recall, runs[seat]) for seat, recall in field.minds], numbers)


def remembered_along(recall, run):
    """What a recall remembers along a run."""
    walk = Walk(recall.maker, recall)
    return [memory for _, memory in followed(walk, walk.first(), run).nodes]


def truth_woven(field, value):
    """What is true of any value that is a weaving that fits, None of other ones."""
    replay = replayed(field, value)
    if replay is None or not replay.fits():
        return None
    whole = replay.whole()
    return field.truth_of(len(field.minds) - 1, replay.stands(whole), replay.remembered(whole))


def is_fitting_weaving(field, value):
    """Whether any value is a weaving that fits."""
    replay = replayed(field, value)
    return replay is not None and replay.fits()
