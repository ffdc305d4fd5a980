"""Where runs and the reading of a sheet lead together: pairs (stand, spot) and the links between them."""

from loggedruns.doing import step_done, steps_from
from loggedruns.errors import TooMany
from loggedruns.sheets import check_end, check_sheet, ends_so
from loggedruns.spots import first_spot, is_read, passes, taken
from loggedruns.stands import first_stand


class Field:
    """The pairs of a maker and a sheet; what can be done at a stand is worked out once."""

    def __init__(self, maker, sheet, end):
        self.maker = maker
        self.sheet = sheet
        self.end = end
        self.known = {}

    def first(self):
        """The pair at which all runs begin."""
        return (first_stand(self.maker), first_spot(self.sheet))

    def moves(self, stand):
        """The steps from a stand, each as (step, entry, stand behind it)."""
        if stand not in self.known:
            found = []
            for step in steps_from(self.maker, stand):
                behind, entry = step_done(self.maker, stand, step)
                found.append((step, entry, behind))
            self.known[stand] = found
        return self.known[stand]

    def links(self, pair):
        """Where a pair leads, each as (step, entry, pair): of a pass the step is None."""
        stand, spot = pair
        found = [(None, None, (stand, way)) for way in passes(self.sheet, spot)]
        for step, entry, behind in self.moves(stand):
            way = spot if entry is None else taken(self.sheet, spot, entry)
            if way is not None:
                found.append((step, entry, (behind, way)))
        return found

    def closes(self, pair):
        """Whether a run that has come to this pair fits as it is."""
        return is_read(self.sheet, pair[1]) and ends_so(self.maker, pair[0], self.end)


def field_of(maker, sheet, end):
    """The field of a sheet and an end, which may be any values."""
    check_sheet(sheet)
    check_end(end)
    return Field(maker, sheet, end)


def least_table(field, limit):
    """The links of each member of the least cover, as they are found."""
    queue = [field.first()]
    found = {queue[0]: True}
    table = {}
    at = 0
    while at < len(queue):
        pair = queue[at]
        at += 1
        table[pair] = field.links(pair)
        for _, _, target in table[pair]:
            if target not in found:
                found[target] = True
                queue.append(target)
        if len(queue) > limit:
            raise TooMany(limit)
    return table


def closing(field, table):
    """The members of a table that close."""
    return [pair for pair in table if field.closes(pair)]


def turned(table):
    """The links of a table the other way round, each as (step, entry, pair)."""
    found = {pair: [] for pair in table}
    for pair, links in table.items():
        for step, entry, target in links:
            found[target].append((step, entry, pair))
    return found


def distances(table, starts):
    """How many steps each pair is from the nearest start, along the links; passes count nothing."""
    found = {}
    layer, number = list(starts), 0
    while layer:
        coming = []
        while layer:
            pair = layer.pop()
            if pair not in found:
                found[pair] = number
                for step, _, target in table[pair]:
                    if step is None:
                        layer.append(target)
                    else:
                        coming.append(target)
        layer = coming
        number += 1
    return found
