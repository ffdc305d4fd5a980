import unittest

from loggedruns.changes import changed
from loggedruns.choices import cheapest
from loggedruns.errors import BadChanges
from loggedruns.makers import Maker, Recorder
from loggedruns.programs import Program
from loggedruns.stands import after, first_stand, steps
from tests.common import GATE, ODD, TINY, Case, do, gone, maker

FLUSH, OTHER = ('flush', 'a', 'ahead'), ('flush', 'a', 'behind')
# Labelled rows of all kinds, in all bodies.
ALL = '''cell x 2
keep y 1
lock l
hand one
  a: if x = 0
    b: set x 1
  else
    c: while x > 1
      d: add x -1
    log 1 u
  try
    e: call p
  catch w
    f: log 2 v x
  stop
part p
  g: take l
  h: give l'''


class ChangedCase(Case):
    def text(self, text, *changes):
        """The text that comes of changes, given in any sequence."""
        made = maker(text, level=2, every=3, names=False)
        told = self.unchanged_maker(changed, made, tuple(sorted(changes)))
        self.assertEqual(told.recorder, made.recorder)
        return told.program.text

    def unchanged_maker(self, deed, made, changes):
        """The maker that a deed returns, twice the same; the one handed in stays as it was."""
        text, recorder = made.program.text, made.recorder
        words = (recorder.level, recorder.every, recorder.names)
        told = deed(maker=made, changes=changes)
        self.assertIsInstance(told, Maker)
        self.assertEqual(deed(made, changes), told)
        self.same([made.program.text, (recorder.level, recorder.every, recorder.names)], [text, words])
        self.assertEqual(Program(told.program.text), told.program)
        return told

    def lines(self, text, changes, *expected):
        """Lines of the text that comes of changes: all are as they were but these, given as (number, line)."""
        told = self.text(text, *changes).split('\n')
        lines = text.split('\n')
        for at, line in expected:
            lines.insert(at, line)
        self.same(told, lines)


class TestExample(ChangedCase):
    def test_mute(self):
        mute = maker('cell x 1\nhand h\n  a: ask x\n  log 1 go\n  c: stop')
        offers = ((('log', 'a', 'behind', 1, 'got', ('x',)), 3), (('log', 'c', 'ahead', 2, 'odd', ('x.odd',)), 2))
        choice = cheapest(mute, ('asked', 'a', 1), offers)[0]
        self.same([choice, changed(mute, choice).program.text],
                  [(('log', 'c', 'ahead', 2, 'odd', ('x.odd',)),),
                   'cell x 1\nhand h\n  a: ask x\n  log 1 go\n  log 2 odd x.odd\n  c: stop'])


class TestRows(ChangedCase):
    def test_ahead_of_each_kind(self):
        for label, at, deep in (('a', 4, 1), ('b', 5, 2), ('c', 7, 2), ('d', 8, 3), ('e', 11, 2), ('f', 13, 2), ('g', 16, 1),
                                ('h', 17, 1)):
            self.lines(ALL, [('flush', label, 'ahead')], (at, '  ' * deep + 'flush'))
            self.lines(ALL, [('log', label, 'ahead', 1, 'w', ())], (at, '  ' * deep + 'log 1 w'))

    def test_behind_each_kind(self):
        """Behind all of an if with its else, and of a while."""
        for label, at, deep in (('a', 10, 1), ('b', 6, 2), ('c', 9, 2), ('d', 9, 3), ('e', 12, 2), ('f', 14, 2), ('g', 17, 1),
                                ('h', 18, 1)):
            self.lines(ALL, [('flush', label, 'behind')], (at, '  ' * deep + 'flush'))
            self.lines(ALL, [('log', label, 'behind', 3, 'w', ('x.odd',))], (at, '  ' * deep + 'log 3 w x.odd'))

    def test_shown_values(self):
        for shown, text in (((), ''), (('x',), ' x'), (('y.some', 'x.odd'), ' y.some x.odd'), (('x', 'x'), ' x x')):
            self.lines(ALL, [('log', 'e', 'behind', 2, 'x', shown)], (12, '    log 2 x' + text))

    def test_rows_that_end_at_one_line(self):
        """The innermost first, each behind its own row."""
        text = 'cell x 1\nhand h\n  a: while x < 1\n    b: if x < 1\n      c: add x 1'
        self.lines(text, [('flush', label, 'behind') for label in 'abc'], (5, '      flush'), (6, '    flush'), (7, '  flush'))
        self.lines(text, [('flush', label, 'ahead') for label in 'abc'], (2, '  flush'), (4, '    flush'), (6, '      flush'))
        self.lines(text, [('log', 'a', 'behind', 1, 'u', ()), ('log', 'b', 'behind', 1, 'v', ()), ('flush', 'c', 'behind')],
                   (5, '      flush'), (6, '    log 1 v'), (7, '  log 1 u'))
        self.lines(text + '\n  d: stop', [('flush', 'a', 'behind'), ('flush', 'd', 'ahead'), ('log', 'c', 'behind', 1, 'u', ())],
                   (5, '      log 1 u'), (6, '  flush'), (7, '  flush'))

    def test_behind_an_if_with_nested_bodies(self):
        text = ('cell x 1\nhand h\n  a: if x = 0\n    try\n      flush\n    catch\n      if x = 1\n        flush\n'
                '  b: if x = 0\n    stop\n  else\n    try\n      flush\n    catch\n      c: flush\n  stop')
        self.lines(text, [('flush', 'a', 'behind')], (8, '  flush'))
        self.lines(text, [('flush', 'b', 'behind')], (15, '  flush'))
        self.lines(text, [('flush', 'b', 'behind'), ('flush', 'c', 'behind')], (15, '      flush'), (16, '  flush'))
        self.lines(text, [('flush', 'a', 'behind'), ('flush', 'b', 'ahead'), ('log', 'b', 'ahead', 1, 'u', ())],
                   (8, '  flush'), (9, '  flush'), (10, '  log 1 u'))

    def test_several_at_one_label(self):
        text = 'cell x 1\nhand h\n  a: ask x\n  b: stop'
        ahead = [('log', 'a', 'ahead', 1, 'v', ()), ('log', 'a', 'ahead', 1, 'u', ('x',)), ('flush', 'a', 'ahead'),
                 ('log', 'a', 'ahead', 2, 'a', ()), ('log', 'a', 'ahead', 1, 'u', ())]
        rows = ['  flush', '  log 1 u', '  log 1 u x', '  log 1 v', '  log 2 a']
        self.lines(text, ahead, *[(2 + k, row) for k, row in enumerate(rows)])
        behind = [(*change[:2], 'behind', *change[3:]) for change in ahead]
        self.lines(text, behind, *[(3 + k, row) for k, row in enumerate(rows)])
        self.lines(text, [*behind, *ahead], *[(2 + k, row) for k, row in enumerate(rows)], *[(8 + k, row) for k, row in enumerate(rows)])

    def test_between_two_labelled_rows(self):
        """First those behind the elder one, though they are greater."""
        text = 'cell x 1\nhand h\n  b: ask x\n  a: stop'
        self.lines(text, [('log', 'b', 'behind', 3, 'z', ()), ('flush', 'a', 'ahead')], (3, '  log 3 z'), (4, '  flush'))
        self.lines(text, [('flush', 'b', 'behind'), ('log', 'a', 'ahead', 1, 'u', ())], (3, '  flush'), (4, '  log 1 u'))
        text = 'cell x 1\nhand h\n  a: ask x\n  b: stop'
        self.lines(text, [('log', 'b', 'ahead', 1, 'u', ()), ('log', 'a', 'behind', 2, 'v', ()), ('log', 'a', 'behind', 1, 'v', ()),
                          ('flush', 'b', 'ahead')], (3, '  log 1 v'), (4, '  log 2 v'), (5, '  flush'), (6, '  log 1 u'))

    def test_names_and_labels_that_are_alike(self):
        text = 'cell log 1\nhand flush\n  box: ask log\n  set: stop'
        self.lines(text, [('log', 'box', 'behind', 1, 'log', ('log.odd', 'log')), ('flush', 'set', 'ahead')],
                   (3, '  log 1 log log.odd log'), (4, '  flush'))

    def test_a_row_ahead_of_a_while_is_done_once(self):
        made = changed(maker('cell x 2\nhand h\n  ask x\n  a: while x > 0\n    b: add x -1\n  stop'),
                       (('log', 'a', 'ahead', 1, 'u', ()), ('log', 'a', 'behind', 1, 'v', ()), ('log', 'b', 'behind', 1, 'w', ())))
        stand, run = first_stand(made), []
        for _ in range(11):
            stand, entry = after(made, stand, steps(made, stand)[-1])
            run.append(entry and entry[1])
        self.same(run, [None, 'u', None, None, 'w', None, None, 'w', None, 'v', None])

    def test_without_a_label(self):
        made = changed(maker(TINY), (FLUSH, OTHER))
        self.same(made.program.labels, ('a', 'b', 'c'))
        self.same([made.program.line(label) for label in 'abc'], [3, 7, 8])
        eight = 'hand h\n' + '\n'.join([f'  {label}: flush' for label in 'abcdefgh'])
        self.same(len(changed(maker(eight), (FLUSH, OTHER)).program.labels), 8)


class TestBox(ChangedCase):
    def test_taken_away_put_in_and_exchanged(self):
        for heads, behind in ((['cell x 1', 'keep y 1', 'lock l'], ['again 1']), (['cell x 1'], []), (['lock l', 'lock k'], ['again 0']),
                              ([], []), ([], ['again 2'])):
            body = ['hand h', '  a: flush']
            for size in (None, 0, 1, 2):
                box = [] if size is None else [f'box {size}']
                text = '\n'.join([*heads, *box, *behind, *body])
                for other in (0, 1, 2):
                    expected = '\n'.join([*heads, *([f'box {other}'] if other else []), *behind, *body])
                    self.same(self.text(text, ('box', other)), expected)
                    self.same(self.text(text, ('box', other), FLUSH), expected.replace('  a:', '  flush\n  a:'))

    def test_what_is_changed_by_it(self):
        made = changed(maker(GATE), (('box', 0),))
        self.same(made.program.box, 0)
        self.same(gone(made, do(0, 0), do(0), do(0), do(0))[3], ((), ()))
        self.same(gone(maker(GATE), do(0, 0), do(0), do(0), do(0))[3], ((('one', 'done', ()),), ()))


class TestRecorders(ChangedCase):
    def recorder(self, *changes, **more):
        made = maker(TINY, **more)
        told = self.unchanged_maker(changed, made, tuple(sorted(changes)))
        self.same(told.program.text, TINY)
        return [told.recorder.level, told.recorder.every, told.recorder.names]

    def test_each(self):
        for level in (1, 2, 3):
            self.same(self.recorder(('level', level)), [level, 0, True])
            self.same(self.recorder(('level', level), level=2, every=3, names=False), [level, 3, False])
        for every in (0, 2, 3, 4):
            self.same(self.recorder(('every', every)), [1, every, True])
            self.same(self.recorder(('every', every), level=2, every=3, names=False), [2, every, False])
        for names in (True, False):
            self.same(self.recorder(('names', names)), [1, 0, names])
            self.same(self.recorder(('names', names), level=2, every=3, names=False), [2, 3, names])
        self.same(self.recorder(('level', 3), ('every', 2), ('names', False)), [3, 2, False])

    def test_changes_nothing(self):
        for changes in ((), (('level', 1),), (('every', 0),), (('names', True),), (('every', 0), ('level', 1), ('names', True))):
            self.assertEqual(changed(maker(TINY), changes), maker(TINY))
        for change in (('box', 1), ('names', True)):
            self.assertEqual(changed(maker(GATE), (change,)), maker(GATE))
        self.assertEqual(changed(maker(TINY), (('box', 0),)), maker(TINY))

    def test_all_together(self):
        made = maker('cell x 1\nlock l\nagain 1\nhand h\n  a: ask x\n  b: if x = 0\n    flush\n  c: stop', level=3, every=4)
        told = changed(made, (('box', 2), ('every', 2), ('flush', 'b', 'behind'), ('flush', 'c', 'ahead'), ('level', 1),
                              ('log', 'a', 'behind', 1, 'got', ('x',)), ('names', False)))
        self.assertEqual(told, Maker(Program('cell x 1\nlock l\nbox 2\nagain 1\nhand h\n  a: ask x\n  log 1 got x\n  b: if x = 0\n'
                                             '    flush\n  flush\n  flush\n  c: stop'), Recorder(level=1, every=2, names=False)))

    def test_what_was_returned_is_changed_again(self):
        made = changed(changed(maker(TINY), (FLUSH,)), (FLUSH, ('box', 1))[::-1])
        self.same(made.program.text, TINY.replace('hand h\n', 'box 1\nhand h\n  flush\n  flush\n'))


class TestWrongValues(Case):
    def wrong(self, made, *values):
        for value in values:
            self.told(BadChanges, value, changed, made, value)

    def test_any_value(self):
        made = maker(ALL)
        self.wrong(made, *[value for value in ODD if value != ()], [FLUSH], FLUSH, ((FLUSH,),), ([*FLUSH],), (FLUSH, None), (None, FLUSH))
        for value in ODD:
            self.wrong(made, (value,), (('box', value) if value not in (0, 1) or isinstance(value, bool) else 1,),
                       ((value, 1),), (('flush', value, 'ahead') if value != 'a' else 1,), (('flush', 'a', value),),
                       (('log', 'a', 'ahead', value if value != 1 or value is True else 9, 'w', ()),),
                       (('log', 'a', 'ahead', 1, value if value not in ('a', 'x') else 1, ()),),
                       (('log', 'a', 'ahead', 1, 'w', value if value != () else [0]),),
                       (('log', 'a', 'ahead', 1, 'w', (value if value != 'x' else 'z',)),),
                       (('names', value if not isinstance(value, bool) else 0),))

    def test_forms(self):
        made = maker(ALL)
        good = ('log', 'a', 'ahead', 1, 'w', ('x',))
        changed(made, (good,))
        for k, values in enumerate((
                ('Log', 'flush', 'note', None), ('i', 'x', 'one', 'p', 'a:', None, ('a',), ['a'], 4), ('before', 'Ahead', '', None, ('ahead',)),
                (0, 4, -1, True, '1', None), ('', 'W', 'toolongname', 'w w', 'w1', None, 1, ('w',)),
                ('x', ['x'], ('x', 'x', 'x'), ('l',), ('z',), ('X',), ('x.',), ('x.even',), ('x.odd.odd',), ('.odd',), (' x',), ('x ',),
                 ('x y',), ('',), (1,), (None,), (('x',),), ('one',), None, 1))):
            for value in values:
                self.wrong(made, ((*good[:k], value, *good[k + 1:]),))
        self.wrong(made, (good[:-1],), ((*good, ()),), ((),), (('flush',),), (('flush', 'a'),), ((*FLUSH, 'ahead'),), (('flush', 'ahead', 'a'),))

    def test_numbers(self):
        made = maker(GATE)
        for kind, fine in (('box', (0, 1, 2)), ('level', (1, 2, 3)), ('every', (0, 2, 3, 4))):
            for n in range(-2, 7):
                if n in fine:
                    changed(made, ((kind, n),))
                else:
                    self.wrong(made, ((kind, n),))
            self.wrong(made, ((kind, True),), ((kind, False),), ((kind, None),), ((kind, '1'),), ((kind,),), ((kind, 2, 2),), ((kind, (2,)),),
                       ((kind, [2]),))
        self.wrong(made, (('names', 1),), (('names', 0),), (('names', None),), (('names',),), (('names', True, True),), (('lock', 'l'),))

    def test_at_most_one_of_each(self):
        made = maker(TINY)
        for kind, one, other in (('box', 0, 1), ('level', 1, 2), ('every', 0, 2), ('names', False, True)):
            changed(made, ((kind, one),))
            changed(made, ((kind, other),))
            self.wrong(made, ((kind, one), (kind, other)), ((kind, one), (kind, one)), ((kind, other), (kind, one)))

    def test_ascending(self):
        made = maker(TINY)
        log, more = ('log', 'a', 'ahead', 1, 'u', ()), ('log', 'a', 'ahead', 1, 'u', ('x',))
        for first, second in ((FLUSH, OTHER), (FLUSH, log), (log, more), (('box', 1), FLUSH), (('level', 1), log), (log, ('names', True)),
                              (('every', 2), FLUSH), (FLUSH, ('flush', 'b', 'ahead')), (OTHER, ('flush', 'b', 'ahead')),
                              (more, ('log', 'a', 'ahead', 1, 'v', ())), (more, ('log', 'a', 'ahead', 2, 'a', ()))):
            changed(made, (first, second))
            self.wrong(made, (second, first), (first, first), (second, second), (first, second, second), [first, second])

    def test_at_most_twenty_rows(self):
        for many in range(12, 21):
            text = 'cell x 1\nhand h\n  a: ask x\n  if x = 0\n    try\n      flush\n    catch\n      flush' + '\n  flush' * (many - 5)
            made = maker(text)
            self.same(len(made.program.rows), many)
            changes = tuple([('log', 'a', 'ahead', 1, word, ()) for word in 'abcdefgh'])
            for more in range(9):
                value = (('box', 1), *changes[:more], ('names', True))
                if many + more <= 20:
                    self.same(len(changed(made, value).program.rows), many + more)
                else:
                    self.wrong(made, value)


if __name__ == '__main__':
    unittest.main()
