"""Where runs and the reading of a sheet lead together: pairs (stand, spot) and the links between them."""

from loggedruns.deeds import line_done
from loggedruns.doing import step_done, steps_from
from loggedruns.errors import TooMany
from loggedruns.sheets import check_end, check_sheet, ends_so
from loggedruns.spots import first_spot, is_read, is_spot, passes, taken
from loggedruns.stands import first_stand
from loggedruns.ways import within
from loggedruns.words import is_tuple_of


class Field:
    """The pairs of a maker and a sheet; what can be done at a stand is worked out once."""

    def __init__(self, maker, sheet, end):
        self.maker = maker
        self.sheet = sheet
        self.end = end
        self.known = {}

    def first(self):
        """The pair at which all runs begin."""
        return (first_stand(self.maker), first_spot(self.sheet))

    def moves(self, stand):
        """The steps from a stand, each as (step, entry, stand behind it)."""
        if stand not in self.known:
            found = []
            for step in steps_from(self.maker, stand):
                behind, entry = step_done(self.maker, stand, step)
                found.append((step, entry, behind))
            self.known[stand] = found
        return self.known[stand]

    def links(self, pair):
        """Where a pair leads, each as (step, entry, pair): of a pass the step is None."""
        stand, spot = pair
        found = [(None, None, (stand, way)) for way in passes(self.sheet, spot)]
        for step, entry, behind in self.moves(stand):
            way = spot if entry is None else taken(self.sheet, spot, entry)
            if way is not None:
                found.append((step, entry, (behind, way)))
        return found

    def closes(self, pair):
        """Whether a run that has come to this pair fits as it is."""
        return is_read(self.sheet, pair[1]) and ends_so(self.maker, pair[0], self.end)

    def is_member(self, forms, value):
        """Whether any value is a pair by its form."""
        return is_tuple_of(value, 2) and forms.is_stand(value[0]) and is_spot(self.sheet, value[1])


def field_of(maker, sheet, end):
    """The field of a sheet and an end, which may be any values."""
    check_sheet(sheet)
    check_end(end)
    return Field(maker, sheet, end)


class Growth:
    """A closed table that is being worked out, from the members that it must have at least."""

    def __init__(self, field, starts):
        self.field = field
        self.queue = list(starts)
        self.found = {member: True for member in self.queue}
        # The links of each member that was grown.
        self.table = {}

    def is_grown(self):
        """Whether all members are grown."""
        return len(self.table) == len(self.queue)

    def grow(self):
        """Notes the links of the next member; returns it."""
        member = self.queue[len(self.table)]
        links = self.field.links(member)
        self.table[member] = links
        for link in links:
            if link[-1] not in self.found:
                self.found[link[-1]] = True
                self.queue.append(link[-1])
        return member


def closed_table(field, starts, limit):
    """The links of each member of the least closed table with these members; with None there is no limit."""
    growth = Growth(field, starts)
    while not growth.is_grown():
        growth.grow()
        if limit is not None and len(growth.queue) > limit:
            raise TooMany(limit)
    return growth.table


def least_table(field, limit):
    """The links of each member of the least cover, as they are found."""
    return closed_table(field, [field.first()], limit)


def closing(field, table):
    """The members of a table that close."""
    return [pair for pair in table if field.closes(pair)]


def leading(field, table):
    """The members of a table from which links lead to one that closes, in a dict."""
    ahead = {member: [] for member in table}
    for member, links in table.items():
        for link in links:
            ahead[link[-1]].append(member)
    queue = closing(field, table)
    found = {}
    while queue:
        member = queue.pop()
        if member not in found:
            found[member] = True
            queue.extend(ahead[member])
    return found


def turned(table):
    """The links of a table the other way round, each as (step, entry, pair)."""
    found = {pair: [] for pair in table}
    for pair, links in table.items():
        for step, entry, target in links:
            found[target].append((step, entry, pair))
    return found


def useful(field, table):
    """The part of a table from which a run that fits goes on: those members alone, and the links between them."""
    return within(table, leading(field, table))


def counts(pair, step, line):
    """Whether a link from a pair counts: as a step, or with a line as one that does the row there."""
    return step is not None and (line is None or line_done(pair[0], step) == line)


def distances(table, starts, line=None):
    """How far each pair is from the nearest start, along the links: how many of them count."""
    found = {}
    layer, number = list(starts), 0
    while layer:
        coming = []
        while layer:
            pair = layer.pop()
            if pair not in found:
                found[pair] = number
                for step, _, target in table[pair]:
                    if counts(pair, step, line):
                        coming.append(target)
                    else:
                        layer.append(target)
        layer = coming
        number += 1
    return found
