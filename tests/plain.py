"""The document's words about questions and lateness, told again as plainly as can be, to compare with."""

from loggedruns.stands import state
from tests import brute


def words_at(made, line):
    """The words of a row, without its label."""
    words = made.program.text.split('\n')[line].split()
    return words[1:] if words[0].endswith(':') else words


def line_done(stand, step):
    return stand[0][step[1]][-1] if step[0] == 'do' else None


def cell_given(made, stand, step):
    """The name of the cell that a step gives a value, None if it gives none (also by a fault)."""
    line = line_done(stand, step)
    if line is None:
        return None
    words = words_at(made, line)
    cells = dict(zip(made.program.cells, stand[1]))
    most = {row.split()[1]: int(row.split()[2]) for row in made.program.text.split('\n')
            if row.split()[0] in ('cell', 'keep')}
    if words[0] == 'ask':
        return words[1]
    if words[0] == 'set':
        value = cells[words[2]] if words[2] in cells else int(words[2])
        return words[1] if value <= most[words[1]] else None
    if words[0] == 'add':
        return words[1] if 0 <= cells[words[1]] + int(words[2]) <= most[words[1]] else None
    return None


def times(made, fact, run, stands):
    """How often what a fact did, fell or spilt asks for came about."""
    if fact[0] == 'did':
        return [line_done(stands[k], run[k]) for k in range(len(run))].count(made.program.line(fact[1]))
    fallen = [k for k in range(len(run)) if stands[k + 1][6] and not stands[k][6]]
    if fact[0] == 'fell':
        return len(fallen)
    return [entry[1] for k in fallen for box in stands[k][3] for entry in box].count(fact[1])


def giver(made, cell, run, stands):
    """The line of the row that gave a cell its value last, None without one."""
    last = None
    for k, step in enumerate(run):
        if step[0] == 'again' and f'\nkeep {cell} ' not in '\n' + made.program.text:
            last = None
        if cell_given(made, stands[k], step) == cell:
            last = line_done(stands[k], step)
    return last


def first_of(made, fact, run, stands):
    """Which of the rows of a fact ahead was done first: 0 for none."""
    one, other = [made.program.line(label) for label in fact[1:]]
    for k, step in enumerate(run):
        if line_done(stands[k], step) in (one, other):
            return 1 if line_done(stands[k], step) == one else 2
    return 0


def is_so(made, fact, run, stands):
    word, one = fact[:2]
    program = made.program
    if word in ('did', 'fell', 'spilt'):
        return times(made, fact, run, stands) >= fact[-1]
    if word == 'ahead':
        return first_of(made, fact, run, stands) == 1
    if word == 'asked':
        return any(line_done(stands[k], step) == program.line(one) and step[2] == fact[2] for k, step in enumerate(run))
    if word in ('was', 'is'):
        values = [stand[1][program.cells.index(one)] for stand in stands]
        return fact[2] in values if word == 'was' else fact[2] == values[-1]
    if word == 'by':
        return giver(made, one, run, stands) == (None if fact[2] is None else program.line(fact[2]))
    if word == 'at':
        place = stands[-1][0][program.hands.index(one)]
        return place == () if fact[2] is None else place != () and place[-1] == program.line(fact[2])
    return state(made, stands[-1]) == one


def is_true(made, question, run, stands):
    if question[0] == 'not':
        return not is_true(made, question[1], run, stands)
    if question[0] == 'and':
        return all(is_true(made, part, run, stands) for part in question[1:])
    if question[0] == 'or':
        return any(is_true(made, part, run, stands) for part in question[1:])
    return is_so(made, question, run, stands)


def facts(question):
    if question[0] in ('not', 'and', 'or'):
        return [fact for part in question[1:] for fact in facts(part)]
    return [question]


def memory(made, question, run, stands):
    found = []
    for fact in facts(question):
        if fact[0] in ('did', 'fell', 'spilt'):
            found.append(min(times(made, fact, run, stands), fact[-1]))
        elif fact[0] == 'ahead':
            found.append(first_of(made, fact, run, stands))
        elif fact[0] in ('asked', 'was', 'by'):
            found.append(1 if is_so(made, fact, run, stands) else 0)
        else:
            found.append(0)
    return tuple(found)


def how_late(made, question, run, stands, entries, first=0):
    """How many entries the log got behind the step by which a lasting question became true, of those behind first
    steps; None if it is not true."""
    for k in range(len(run) + 1):
        if is_true(made, question, run[:k], stands[:k + 1]):
            return len([entry for entry in entries[max(k, first):] if entry is not None])
    return None


def spots(sheet, entries):
    """All spots to which what the steps of a run gave can be taken."""
    found = {tuple((0, 0) for _ in sheet)}
    for entry in [None, *entries]:
        if entry is not None:
            found = {other for spot in found for other in brute.spots_behind(sheet, spot, entry)}
        while True:
            more = {other for spot in found for other in brute.spots_passed(sheet, spot)} - found
            if not more:
                break
            found |= more
    return found


def minded(made, sheet, remembered, runs):
    """The least cover with memories of a maker with few runs; remembered gives that of a run and its stands."""
    found = set()
    for run, stands, entries in runs:
        found.update([(stands[-1], spot, remembered(run, stands)) for spot in spots(sheet, entries)])
    return tuple(sorted(found))


def word(truths):
    """What is told of runs with these truths."""
    if not truths:
        return 'none'
    return 'sometimes' if len(set(truths)) == 2 else 'always' if truths[0] else 'never'


def fitted(made, runs, sheet, end):
    """The runs that fit, with their stands."""
    read = tuple((len(copy), 0) for copy in sheet)
    return [(run, stands) for run, stands, entries in runs
            if brute.ends(made, stands[-1], end) and read in spots(sheet, entries)]
