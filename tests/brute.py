"""The document's words about sheets and covers, told again as plainly as can be, to compare with."""

from loggedruns.stands import after, first_stand, state, steps


def all_runs(made, most):
    """All runs, as (steps, stands, entries): stands one more than steps. None if there are more than most."""
    found = []
    queue = [((), (first_stand(made),), ())]
    while queue:
        run, stands, entries = queue.pop()
        found.append((run, stands, entries))
        if len(found) > most:
            return None
        for step in steps(made, stands[-1]):
            behind, entry = after(made, stands[-1], step)
            queue.append(((*run, step), (*stands, behind), (*entries, entry)))
    return found


def spots_behind(sheet, spot, entry):
    """All spots to which an entry can be taken."""
    found = []
    for (index, part), copy in zip(spot, sheet):
        if index == len(copy):
            return []
        item = copy[index]
        if item is None:
            found.append((index, part))
        elif isinstance(item, int):
            found.append((index, part + 1) if part < item - 1 else (index + 1, 0))
        else:
            likes = item[0] in (None, entry[0]) and item[1] in (None, entry[1])
            if item[0] is not None and entry[0] is None:
                likes = False
            if item[2] is not None:
                likes = likes and len(item[2]) == len(entry[2])
                likes = likes and all(read in (None, worth) for read, worth in zip(item[2], entry[2]))
            if not likes:
                return []
            found.append((index + 1, 0))
    return [tuple(found)]


def spots_passed(sheet, spot):
    found = []
    for k, copy in enumerate(sheet):
        index = spot[k][0]
        if index < len(copy) and copy[index] is None:
            found.append(tuple((index + 1, 0) if j == k else spot[j] for j in range(len(sheet))))
    return found


def ways(sheet, entries):
    """All ways of taking what each step gives (None for nothing) until all copies are read: lists of
    (number of steps done, spot), in sequence."""
    end = tuple((len(copy), 0) for copy in sheet)
    found = []

    def go(done, spot, way):
        way = way + [(done, spot)]
        if done == len(entries) and spot == end:
            found.append(way)
        for other in spots_passed(sheet, spot):
            go(done, other, way)
        if done < len(entries):
            others = [spot] if entries[done] is None else spots_behind(sheet, spot, entries[done])
            for other in others:
                go(done + 1, other, way)

    go(0, tuple((0, 0) for _ in sheet), [])
    return found


def ends(made, stand, end):
    return end is None or (end == 'open') == (state(made, stand) == 'open')


def fitting_ways(made, runs, sheet, end):
    """All runs that fit, as (run, stands, entries, ways)."""
    found = []
    for run, stands, entries in runs:
        if ends(made, stands[-1], end):
            good = ways(sheet, entries)
            if good:
                found.append((run, stands, entries, good))
    return found


def shortest_run(fitted):
    return min([run for run, _, _, _ in fitted], key=lambda run: (len(run), run), default=None)


def stands_where(fitted, copy, index):
    found = set()
    for _, stands, _, good in fitted:
        for way in good:
            found.update([stands[done] for done, spot in way if spot[copy] == (index, 0)])
    return tuple(sorted(found))


def filled(fitted, copy, index):
    found = set()
    for _, _, entries, good in fitted:
        for way in good:
            inside = []
            for (done, spot), (later, _) in zip(way, way[1:]):
                if later > done and entries[done] is not None and spot[copy][0] == index:
                    inside.append(entries[done])
            found.add(tuple(inside))
    return tuple(sorted(found))


def targets(made, sheet, pair):
    stand, spot = pair
    found = [(1, (behind, other)) for step in steps(made, stand) for behind, entry in [after(made, stand, step)]
             for other in ([spot] if entry is None else spots_behind(sheet, spot, entry))]
    return found + [(0, (stand, other)) for other in spots_passed(sheet, spot)]


def closed_over(made, sheet, pairs):
    """The least closed set with these pairs in it."""
    found = set(pairs)
    while True:
        more = {target for pair in found for _, target in targets(made, sheet, pair)} - found
        if not more:
            return found
        found |= more


def first_pair(made, sheet):
    return (first_stand(made), tuple((0, 0) for _ in sheet))


def closers(made, sheet, end, pairs):
    read = tuple((len(copy), 0) for copy in sheet)
    return [pair for pair in pairs if pair[1] == read and ends(made, pair[0], end)]
