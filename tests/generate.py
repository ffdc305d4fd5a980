"""Random programs and sheets, from a seeded source."""

from tests.common import maker

CELLS = ('x', 'y')


def rows(rng, depth, many, names):
    """Some rows, as lines without the blanks of their body."""
    found = []
    for _ in range(rng.randint(1, many)):
        found.extend(row(rng, depth, names))
    return found


def row(rng, depth, names):
    cells, locks, hands, parts = names
    cell, lock = rng.choice(cells), rng.choice(locks)
    plain = [f'set {cell} {rng.choice([0, 1, 2, *cells])}', f'add {cell} {rng.choice([-1, 1, 2])}', f'ask {cell}',
             f'log {rng.randint(1, 3)} {rng.choice("uv")}{rng.choice(["", f" {cell}", f" {cell}.odd {cell}.some"])}',
             f'log 3 {rng.choice("uv")}', f'log 3 w {cell}', f'take {lock}', f'give {lock}', 'flush', 'stop',
             f'start {rng.choice(hands)}', f'start {hands[-1]}', f'join {rng.choice(hands)}',
             f'fail {rng.choice(["e", "range"])}']
    if parts:
        plain.append(f'call {rng.choice(parts)}')
    kind = rng.choice(['plain'] * 5 + ['if', 'try', 'else'])
    if depth == 0 or kind == 'plain':
        return [rng.choice(plain)]
    inner = ['  ' + line for line in rows(rng, depth - 1, 2, names)]
    other = ['  ' + line for line in rows(rng, depth - 1, 1, names)]
    if kind == 'try':
        return ['try', *inner, rng.choice(['catch', 'catch e', 'catch range', 'catch lack']), *other]
    found = [f'if {cell} {rng.choice(["=", "!=", "<", ">"])} {rng.choice([0, 1, *cells])}', *inner]
    return [*found, 'else', *other] if kind == 'else' else found


def program(rng):
    names = (CELLS, ('l',), ('a', 'b') if rng.random() < 0.5 else ('a',), ('p',) if rng.random() < 0.3 else ())
    lines = [f'{rng.choice(["cell", "keep"])} {cell} {rng.randint(1, 2)}' for cell in CELLS]
    lines.append('lock l')
    if rng.random() < 0.6:
        lines.append(f'box {rng.randint(0, 2)}')
    if rng.random() < 0.4:
        lines.append('again 1')
    for hand in names[2]:
        lines.extend([f'hand {hand}', *['  ' + line for line in rows(rng, 2, 4, names)]])
    for part in names[3]:
        lines.extend([f'part {part}', *['  ' + line for line in rows(rng, 1, 2, names)]])
    return '\n'.join(lines)


def recorder(rng):
    return dict(level=rng.choice([1, 1, 2]), every=rng.choice([0, 0, 2, 3]), names=rng.random() < 0.7)


def item(rng, entry):
    hand, word, values = entry
    if rng.random() < 0.5:
        return entry
    return (rng.choice([hand, None]), rng.choice([word, word, None, 'u']),
            rng.choice([values, None, tuple(rng.choice([value, None]) for value in values)]))


def copy(rng, log):
    """A damaged copy of a log."""
    found = []
    k = 0
    while k < len(log):
        many = rng.randint(1, 3)
        kind = rng.random()
        if kind < 0.5:
            found.append(item(rng, log[k]))
            k += 1
        elif kind < 0.75:
            found.append(min(many, len(log) - k))
            k += many
        else:
            found.append(None)
            k += many - 1
    if rng.random() < 0.3:
        found.insert(rng.randint(0, len(found)), rng.choice([None, 1, 2]))
    return tuple(found[:12])


def sheet(rng, log):
    if rng.random() < 0.5:
        return (copy(rng, log),)
    return (copy(rng, log), copy(rng, log))


def made(rng):
    while True:
        text = program(rng)
        inner = [line.split()[0] for line in text.split('\n') if line.startswith(' ')]
        if len([word for word in inner if word not in ('else', 'catch')]) <= 20:
            return maker(text, **recorder(rng))
