"""Random programs and sheets, from a seeded source."""

import random

from loggedruns.questions import is_question
from tests import brute
from tests.common import maker

KINDS = ('did', 'ahead', 'asked', 'was', 'is', 'by', 'at', 'fell', 'spilt', 'ended')
LASTING = ('did', 'ahead', 'asked', 'was', 'fell', 'spilt')
CELLS = ('x', 'y')


def rows(rng, depth, many, names):
    """Some rows, as lines without the blanks of their body."""
    found = []
    for _ in range(rng.randint(1, many)):
        found.extend(row(rng, depth, names))
    return found


def row(rng, depth, names):
    cells, locks, hands, parts = names
    cell, lock = rng.choice(cells), rng.choice(locks)
    plain = [f'set {cell} {rng.choice([0, 1, 2, *cells])}', f'add {cell} {rng.choice([-1, 1, 2])}', f'ask {cell}',
             f'log {rng.randint(1, 3)} {rng.choice("uv")}{rng.choice(["", f" {cell}", f" {cell}.odd {cell}.some"])}',
             f'log 3 {rng.choice("uv")}', f'log 3 w {cell}', f'take {lock}', f'give {lock}', 'flush', 'stop',
             f'start {rng.choice(hands)}', f'start {hands[-1]}', f'join {rng.choice(hands)}',
             f'fail {rng.choice(["e", "range"])}']
    if parts:
        plain.append(f'call {rng.choice(parts)}')
    kind = rng.choice(['plain'] * 5 + ['if', 'try', 'else'])
    if depth == 0 or kind == 'plain':
        return [rng.choice(plain)]
    inner = ['  ' + line for line in rows(rng, depth - 1, 2, names)]
    other = ['  ' + line for line in rows(rng, depth - 1, 1, names)]
    if kind == 'try':
        return ['try', *inner, rng.choice(['catch', 'catch e', 'catch range', 'catch lack']), *other]
    found = [f'if {cell} {rng.choice(["=", "!=", "<", ">"])} {rng.choice([0, 1, *cells])}', *inner]
    return [*found, 'else', *other] if kind == 'else' else found


def program(rng):
    names = (CELLS, ('l',), ('a', 'b') if rng.random() < 0.5 else ('a',), ('p',) if rng.random() < 0.3 else ())
    lines = [f'{rng.choice(["cell", "keep"])} {cell} {rng.randint(1, 2)}' for cell in CELLS]
    lines.append('lock l')
    if rng.random() < 0.6:
        lines.append(f'box {rng.randint(0, 2)}')
    if rng.random() < 0.4:
        lines.append('again 1')
    for hand in names[2]:
        lines.extend([f'hand {hand}', *['  ' + line for line in rows(rng, 2, 4, names)]])
    for part in names[3]:
        lines.extend([f'part {part}', *['  ' + line for line in rows(rng, 1, 2, names)]])
    return '\n'.join(lines)


def recorder(rng):
    return dict(level=rng.choice([1, 1, 2]), every=rng.choice([0, 0, 2, 3]), names=rng.random() < 0.7)


def item(rng, entry):
    hand, word, values = entry
    if rng.random() < 0.5:
        return entry
    return (rng.choice([hand, None]), rng.choice([word, word, None, 'u']),
            rng.choice([values, None, tuple(rng.choice([value, None]) for value in values)]))


def copy(rng, log):
    """A damaged copy of a log."""
    found = []
    k = 0
    while k < len(log):
        many = rng.randint(1, 3)
        kind = rng.random()
        if kind < 0.5:
            found.append(item(rng, log[k]))
            k += 1
        elif kind < 0.75:
            found.append(min(many, len(log) - k))
            k += many
        else:
            found.append(None)
            k += many - 1
    if rng.random() < 0.3:
        found.insert(rng.randint(0, len(found)), rng.choice([None, 1, 2]))
    return tuple(found[:12])


def sheet(rng, log):
    if rng.random() < 0.5:
        return (copy(rng, log),)
    return (copy(rng, log), copy(rng, log))


def made(rng):
    while True:
        text = program(rng)
        inner = [line.split()[0] for line in text.split('\n') if line.startswith(' ')]
        if len([word for word in inner if word not in ('else', 'catch')]) <= 20:
            return maker(text, **recorder(rng))


def labelled(rng, plain):
    """The maker with labels at some rows."""
    lines = plain.program.text.split('\n')
    rows = [k for k, line in enumerate(lines) if line.startswith(' ') and line.split()[0] not in ('try', 'else', 'catch')]
    for name, k in zip('abcdef', rng.sample(rows, min(len(rows), rng.randint(1, 6)))):
        deep = len(lines[k]) - len(lines[k].lstrip())
        lines[k] = lines[k][:deep] + name + ': ' + lines[k][deep:]
    recorder = plain.recorder
    return maker('\n'.join(lines), level=recorder.level, every=recorder.every, names=recorder.names)


def fact(rng, program, kinds=KINDS):
    while True:
        one, other, cell = rng.choice(program.labels), rng.choice(program.labels), rng.choice(program.cells)
        found = {'did': ('did', one, rng.randint(1, 3)), 'ahead': ('ahead', one, other),
                 'asked': ('asked', one, rng.randint(0, 2)), 'was': ('was', cell, rng.randint(0, 2)),
                 'is': ('is', cell, rng.randint(0, 2)), 'by': ('by', cell, rng.choice([None, one])),
                 'at': ('at', rng.choice(program.hands), rng.choice([None, one])), 'fell': ('fell', rng.randint(1, 2)),
                 'spilt': ('spilt', rng.choice('uvw'), rng.randint(1, 2)),
                 'ended': ('ended', rng.choice(['done', 'fallen', 'stuck', 'open']))}[rng.choice(kinds)]
        if is_question(program, found):
            return found


def question(rng, program, kinds=KINDS, deep=2):
    kind = rng.random()
    if deep == 0 or kind < 0.5:
        return fact(rng, program, kinds)
    if kind < 0.65 and kinds == KINDS:
        return ('not', question(rng, program, kinds, deep - 1))
    return (rng.choice(['and', 'or']), question(rng, program, kinds, deep - 1), question(rng, program, kinds, deep - 1))


def looped(rng):
    """A maker with labels, the rows of its first hand in a loop, which may have no end."""
    while True:
        plain = made(rng)
        ahead, body = plain.program.text.split('hand a\n')
        body, hand, behind = body.partition('\nhand') if '\nhand' in body else body.partition('\npart')
        inner = '\n'.join(['  ' + line for line in body.split('\n')])
        text = f'{ahead}hand a\n  while x {rng.choice(["= 0", "< 2", "= x"])}\n{inner}{hand}{behind}'
        if len([line for line in text.split('\n') if line.startswith(' ') and line.split()[0] not in ('else', 'catch')]) <= 20:
            recorder = plain.recorder
            return labelled(rng, maker(text, level=recorder.level, every=recorder.every, names=recorder.names))


def talker(rng, loop=False):
    """A maker of one hand with labels that asks, and tells of it later, perhaps; the last rows perhaps in a loop."""
    lines = ['cell x 1', 'cell y 1', *rng.choice([[], [], ['box 1']]), 'hand a']
    many = rng.randint(3, 6)
    ring = rng.randint(0, many - 1) if loop else many
    for k in range(many):
        deep = '  ' if k < ring else '    '
        if k == ring:
            lines.append(f'  while {rng.choice(["x = x", "x = x", "y = 0"])}')
        if rng.random() < 0.3:
            lines.append(f'{deep}if {rng.choice("xy")} = {rng.randint(0, 1)}')
            deep += '  '
        lines.append(deep + rng.choice(['ask x', 'ask x', 'ask y', 'log 1 u', 'log 1 u', 'log 1 v x', 'log 2 w y', 'set x y',
                                        *([] if loop else ['fail e', 'log 1 u'])]))
    return labelled(rng, maker('\n'.join(lines), **recorder(rng)))


def chatty(rng):
    """A maker of one hand with labels that writes much, round and round, perhaps with a box."""
    lines = ['cell x 2', 'cell y 1', *rng.choice([[], [], ['box 1']]), 'hand a', '  while x < 2']
    for _ in range(rng.randint(3, 6)):
        deep = '    '
        if rng.random() < 0.4:
            lines.append(f'    if {rng.choice("xy")} {rng.choice("=<")} {rng.randint(1, 2)}')
            deep += '  '
        lines.append(deep + rng.choice(['ask x', 'ask y', 'log 1 u', 'log 1 v y', 'log 1 u x.odd', 'log 2 w', 'set y 0',
                                        'set x y']))
    lines.append(rng.choice(['  log 1 u', '  log 1 v y', '  stop']))
    return labelled(rng, maker('\n'.join(lines), level=1, every=rng.choice([0, 0, 0, 2]), names=rng.random() < 0.7))


def makers(seed, many, most=250, kind=None):
    """So many times a maker with labels and few runs, and these."""
    rng = random.Random(seed)
    count = 0
    while count < many:
        found = kind(rng) if kind else labelled(rng, made(rng))
        runs = brute.all_runs(found, most)
        if runs is not None:
            count += 1
            yield rng, found, runs
