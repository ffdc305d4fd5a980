"""What several tests need: the document's programs, odd values, strict comparison."""

import unittest

from loggedruns.makers import Maker, Recorder
from loggedruns.programs import Program
from loggedruns.stands import after, first_stand

GATE = ('cell x 2\nbox 1\nhand one\n  a: ask x\n  start two\n  while x > 0\n    b: add x -1\n'
        '    log 1 went x\n  c: log 2 done\nhand two\n  d: set x 2')
TINY = 'cell x 1\nhand h\n  a: ask x\n  log 1 go\n  if x > 0\n    b: log 1 hot\n  c: stop'


def nested(depth, wrap):
    value = 1
    for _ in range(depth):
        value = wrap(value)
    return value


ODD = (
    None, True, False, 0, 1, -1, 5, 2 ** 80, '', 'a', 'x', 'open ', 'Over', 'two words', (), (0,), ((0,),),
    [], [1, 2], ['over'], {}, {'a': 1}, {1: [2]}, (1, True), ((), ()), (None, None),
    nested(30, lambda value: (value,)), nested(30, lambda value: [value]), nested(30, lambda value: {'k': value}),
)


def maker(text, **recorder):
    return Maker(Program(text), Recorder(**recorder))


def do(hand, value=None):
    return ('do', hand, value)


def write(hand):
    return ('write', hand)


AGAIN = ('again',)


def gone(made, *run):
    """The stand behind steps that are known to be possible."""
    stand = first_stand(made)
    for step in run:
        stand, _ = after(made, stand, step)
    return stand


def standing(rows, fewer, least):
    """A maker that writes nothing: 5 stands, 16 for each of rows, 4 for each of fewer, one for each of least, and more."""
    lines = ['cell x 3', 'cell y 3', 'hand h', '  a: ask x', '  ask y', *['  flush'] * rows]
    lines += ['  set y 0', *['  flush'] * fewer] if fewer else []
    lines += ['  set x 0', *['  flush'] * least] if least else []
    return maker('\n'.join(lines))


def strict(value):
    """A text by which values that are equal but of another kind differ."""
    if isinstance(value, (tuple, list)):
        return type(value).__name__ + '(' + ','.join([strict(member) for member in value]) + ')'
    if isinstance(value, dict):
        return 'dict(' + ','.join([strict(pair) for pair in value.items()]) + ')'
    if not isinstance(value, (int, str, type(None))):
        return type(value).__name__
    return type(value).__name__ + repr(value)


class Case(unittest.TestCase):
    def told(self, error, value, deed, /, *words, **more):
        """The deed raises just this error, which keeps just this value; what it was handed stays as it was."""
        ahead = strict([words, more])
        with self.assertRaises(error) as held:
            deed(*words, **more)
        self.assertIs(type(held.exception), error)
        self.assertEqual(strict(held.exception.value), strict(value))
        self.assertEqual(strict([words, more]), ahead)

    def told_in_sequence(self, deed, good, wrong):
        """Each of these (name, value, error) is told by itself, and of several the first one."""
        for k, (name, value, error) in enumerate(wrong):
            self.told(error, value, deed, **{**good, name: value})
            for other, worth, _ in wrong[k + 1:]:
                if other != name:
                    self.told(error, value, deed, **{**good, name: value, other: worth})
            self.told(error, value, deed, **{**good, **{other: worth for other, worth, _ in wrong[k + 1:]}, name: value})

    def same(self, value, expected):
        self.assertEqual(strict(value), strict(expected))

    def unchanged(self, deed, /, *words, **more):
        """What the deed returns, twice the same; what it was handed stays as it was."""
        ahead = strict([words, more])
        result = deed(*words, **more)
        self.same(deed(*words, **more), result)
        self.assertEqual(strict([words, more]), ahead)
        return result


def leaves(value):
    """What may stand in the place of a value that is no tuple."""
    if isinstance(value, bool):
        return [not value, int(value), None]
    if isinstance(value, int):
        return [value + 1, value - 1, value == 1, None]
    return [None, 'none', 'always', 'u', 0] if isinstance(value, str) else [0, False, ()]


def near(value, rng, many):
    """So many values that differ from a tuple at one place, deep within."""
    return [nearby(value, rng) for _ in range(many)]


def nearby(value, rng):
    if not isinstance(value, tuple):
        return rng.choice(leaves(value))
    kind = rng.random()
    if value and kind < 0.7:
        at = rng.randrange(len(value))
        return (*value[:at], nearby(value[at], rng), *value[at + 1:])
    at = rng.randint(0, len(value))
    if kind < 0.78:
        return list(value)
    if kind < 0.86 and value:
        return value[:at] + value[at + 1:]
    if kind < 0.93 and value:
        return value[:at] + value[at - 1:] if at else value[:1] + value
    if len(value) > 1:
        one, other = rng.sample(range(len(value)), 2)
        found = list(value)
        found[one], found[other] = found[other], found[one]
        return tuple(found)
    return (*value, 0)
