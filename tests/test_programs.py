import unittest

from loggedruns.errors import BadProgram, Doubled, NoLabel, Unnamed
from loggedruns.programs import Program
from tests.common import GATE, ODD, TINY, Case


def body(*rows, head=('cell x 2', 'lock l', 'hand h')):
    """A program with these rows, two blanks deep, in its only hand."""
    return '\n'.join([*head, *['  ' + row for row in rows]])


class TestExamples(Case):
    def test_gate(self):
        gate = Program(GATE)
        self.same([gate.cells, gate.hands, gate.labels, gate.line('b')],
                  [('x',), ('one', 'two'), ('a', 'b', 'c', 'd'), 6])
        self.same([gate.text, gate.locks, gate.parts], [GATE, (), ()])

    def test_unnamed(self):
        self.told(Unnamed, 2, Program, 'cell x 2\nhand one\n  set y 1')

    def test_no_catch(self):
        self.told(BadProgram, 3, Program, 'hand one\n  try\n    stop\n  stop')


class TestProperties(Case):
    def test_all(self):
        text = ('keep b 1\ncell a 3\ncell c 2\nlock m\nlock k\nbox 2\nagain 1\nhand z\n  call q\nhand y\n  zz: stop\n'
                'part r\n  b: stop\npart q\n  a: stop')
        program = Program(text)
        self.same(program.text, text)
        self.same(program.cells, ('b', 'a', 'c'))
        self.same(program.locks, ('m', 'k'))
        self.same(program.hands, ('z', 'y'))
        self.same(program.parts, ('r', 'q'))
        self.same(program.labels, ('a', 'b', 'zz'))
        self.same([program.line(label) for label in program.labels], [14, 12, 10])

    def test_by_name(self):
        program = Program(text=TINY)
        self.same(program.line(label='c'), 6)

    def test_no_label(self):
        gate = Program(GATE)
        for value in ODD:
            if value != 'a':
                self.told(NoLabel, value, gate.line, value)
        self.told(NoLabel, 'x', gate.line, 'x')
        self.told(NoLabel, 'one', gate.line, label='one')

    def test_equal(self):
        self.assertTrue(Program(GATE) == Program(GATE))
        self.assertFalse(Program(GATE) != Program(GATE))
        self.assertFalse(Program(GATE) == Program(TINY))
        self.assertTrue(Program('hand h\n  stop') != Program('hand k\n  stop'))
        for value in [*ODD, GATE]:
            self.assertFalse(Program(GATE) == value)
            self.assertTrue(Program(GATE) != value)


class TestForms(Case):
    def test_rows_that_can_stand(self):
        for row in ('set x 0', 'set x 3', 'set x x', 'add x -3', 'add x -1', 'add x 1', 'add x 3', 'ask x',
                    'log 1 w', 'log 2 abcdefgh', 'log 3 w x', 'log 1 w x.odd', 'log 1 w x.some x', 'take l', 'give l',
                    'start h', 'join h', 'call p', 'fail w', 'fail range', 'flush', 'stop', 'log 1 log', 'a: stop',
                    'abcdefgh: stop', 'stop: stop', 'x: stop', 'a: if x = 0\n    stop', 'w: while x > x\n    stop',
                    'if x != 3\n    stop\n  else\n    stop', 'if x < 1\n    stop', 'try\n    stop\n  catch\n    stop',
                    'try\n    stop\n  catch deep\n    stop'):
            self.assertEqual(Program(body(row) + '\npart p\n  stop').hands, ('h',), row)

    def test_rows_that_cannot(self):
        for row in ('set x 4', 'set x -1', 'set x 01', 'set x', 'set x 1 1', 'set x x.odd', 'set X 1', 'set x 1 ',
                    'add x 0', 'add x 4', 'add x -4', 'add x +1', 'add x -0', 'add x x', 'add x 01', 'add x', 'ask',
                    'ask x x', 'ask 1', 'log', 'log 1', 'log 0 w', 'log 4 w', 'log 1 W', 'log 1 w x x x', 'log w',
                    'log 1 abcdefghi', 'log 1 w x.', 'log 1 w x.even', 'log 1 w .odd', 'log 1 w x.odd.odd',
                    'log 1 w 1', 'log 1 w x.some ', 'take', 'take l l', 'give', 'start', 'start h h', 'join', 'call',
                    'fail', 'fail 1', 'fail w w', 'flush x', 'stop h', 'stop ', ' stop', '', ' ', 'hand k', 'cell y 1',
                    'a stop', 'a:stop', 'a: ', 'a:', ': stop', 'a:  stop', 'A: stop', 'a: b: stop', 'abcdefghi: stop',
                    'a1: stop', 'set  x 1', 'set\tx 1', 'go', 'Set x 1', 'stop\r', 'set x \u0663', 's\u00e9t x 1',
                    'else', 'catch', 'catch w', 'a: else', 'a: catch', 'if', 'if x = 4\n    stop', 'if x == 1\n    stop',
                    'if x <= 1\n    stop', 'if 1 = x\n    stop', 'if x = 1 1\n    stop', 'if x\n    stop',
                    'while x\n    stop', 'while x = x.odd\n    stop', 'a: try\n    stop\n  catch\n    stop',
                    'try x\n    stop\n  catch\n    stop', 'take l.odd', 'ask x.odd', 'set x.odd 1', 'add x.some 1',
                    'start h.some', 'call p.odd', 'fail w.odd', 'log 1 w.odd', 'if x.odd = 1\n    stop', 'take l.',
                    'a.odd: stop'):
            self.told(BadProgram, 3, Program, body(row, 'stop'))

    def test_else_and_catch_by_their_words(self):
        for row in ('else x', 'else ', 'a: else'):
            self.told(BadProgram, 5, Program, body('if x = 1', '  stop', row, '  stop'))
        for row in ('catch 1', 'catch w w', 'catch abcdefghi', 'a: catch'):
            self.told(BadProgram, 5, Program, body('try', '  stop', row, '  stop'))

    def test_values_that_are_no_strings(self):
        for value in ODD:
            if not isinstance(value, str):
                self.told(BadProgram, 0, Program, value)

    def test_strings_that_are_none(self):
        for value in ('', 'a', 'two words', '\n', ' ', 'stop', '  stop'):
            self.told(BadProgram, 0, Program, value)


class TestHeads(Case):
    def wrong(self, line, *texts):
        self.told(BadProgram, line, Program, '\n'.join(texts))

    def fine(self, *texts):
        self.assertEqual(Program('\n'.join(texts)).text, '\n'.join(texts))

    end = ('hand h', '  stop')

    def test_cells(self):
        self.fine('cell a 1', 'keep b 2', 'cell c 3', *self.end)
        self.wrong(3, 'cell a 1', 'keep b 2', 'cell c 3', 'keep d 1', *self.end)
        self.wrong(3, 'keep a 1', 'keep b 2', 'keep c 3', 'cell d 1', *self.end)
        for text in ('cell a 0', 'cell a 4', 'cell a 01', 'cell a', 'cell a 1 1', 'cell A 1', 'cell abcdefghi 1',
                     'cell  a 1', 'cell a 1 ', 'keep a 0', 'keep a 4', 'keep a', 'Cell a 1', 'cell a1 1', ' cell a 1',
                     '  cell a 1', 'a: cell a 1', 'cell a.odd 1', 'cell a -1', 'cell a x'):
            self.wrong(0, text, *self.end)
        self.fine('cell abcdefgh 1', *self.end)
        self.fine('cell cell 1', 'keep keep 1', 'lock lock', 'hand hand', '  stop', 'part part', '  stop')

    def test_locks(self):
        self.fine('lock a', 'lock b', *self.end)
        self.fine('lock abcdefgh', *self.end)
        self.wrong(2, 'lock a', 'lock b', 'lock c', *self.end)
        for text in ('lock', 'lock a b', 'lock 1', 'lock abcdefghi', 'lock a '):
            self.wrong(0, text, *self.end)

    def test_box_and_again(self):
        for head in ('box', 'again'):
            for number in '012':
                self.fine(f'{head} {number}', *self.end)
            for text in (head, f'{head} 3', f'{head} -1', f'{head} 00', f'{head} 1 1', f'{head} x', f'{head}  1'):
                self.wrong(0, text, *self.end)
            self.wrong(1, f'{head} 1', f'{head} 1', *self.end)
        self.fine('box 1', 'again 2', *self.end)

    def test_hands_and_parts(self):
        self.fine('hand a', '  stop', 'hand b', '  stop', 'part c', '  stop', 'part d', '  stop')
        self.fine('hand abcdefgh', '  call bcdefghi', 'part bcdefghi', '  fail cdefghij')
        self.wrong(4, 'hand a', '  stop', 'hand b', '  stop', 'hand c', '  stop')
        self.wrong(6, 'hand a', '  stop', 'part b', '  stop', 'part c', '  stop', 'part d', '  stop')
        self.wrong(0, 'part a', '  stop', 'hand b', '  stop')
        self.wrong(4, 'hand a', '  stop', 'part b', '  stop', 'hand c', '  stop')
        for text in ('hand', 'hand a b', 'hand 1', 'hand abcdefghi', 'hand A', 'hand a '):
            self.wrong(0, text, '  stop')
            self.wrong(2, 'hand h', '  stop', text.replace('hand', 'part'), '  stop')

    def test_sequence(self):
        heads = ('cell a 1', 'lock b', 'box 1', 'again 1')
        self.fine(*heads, *self.end)
        for late in range(1, 4):
            for early in range(late):
                self.wrong(1, heads[late], heads[early], *self.end)
        for head in heads:
            self.wrong(2, *self.end, head)
            self.wrong(2, *self.end, head, 'hand k', '  stop')
            self.wrong(4, *self.end, 'part p', '  stop', head)

    def test_a_row_without_a_hand(self):
        self.wrong(0, '  stop')
        self.wrong(1, 'cell x 1', '  stop')
        self.wrong(1, 'hand h', 'stop')

    def test_empty_lines(self):
        self.wrong(2, 'hand h', '  stop', '')
        self.wrong(1, 'hand h', '', '  stop')
        self.wrong(0, '', 'hand h', '  stop')
        self.wrong(2, 'hand h', '  stop', '  ')
        self.wrong(1, 'hand h', '  ', '  stop')


class TestLacks(Case):
    def test_no_hand(self):
        for text in ('cell x 1', 'cell x 1\nlock l\nbox 2\nagain 1', 'box 0'):
            self.told(BadProgram, text.count('\n') + 1, Program, text)

    def test_no_body(self):
        self.told(BadProgram, 1, Program, 'hand h')
        self.told(BadProgram, 3, Program, 'hand h\n  stop\nhand k')
        self.told(BadProgram, 3, Program, 'hand h\n  stop\npart k')
        self.told(BadProgram, 1, Program, 'hand h\nhand k\n  stop')
        self.told(BadProgram, 1, Program, 'hand h\npart k\n  stop')
        for row in ('if x = 1', 'while x = 1', 'try', 'try\n    stop\n  catch', 'if x = 1\n    stop\n  else'):
            text = body(row)
            self.told(BadProgram, text.count('\n') + 1, Program, text)
            self.told(BadProgram, text.count('\n') + 1, Program, text + '\n  stop')
            self.told(BadProgram, text.count('\n') + 1, Program, text + '\npart p\n  stop')

    def test_no_catch(self):
        self.told(BadProgram, 5, Program, body('try', '  stop'))
        self.told(BadProgram, 5, Program, body('try', '  stop', 'stop'))
        self.told(BadProgram, 5, Program, body('try', '  stop', 'try', '  stop', 'catch', '  stop'))
        self.told(BadProgram, 5, Program, body('try', '  stop') + '\npart p\n  stop')
        self.told(BadProgram, 6, Program, body('if x = 1', '  try', '    stop', 'else', '  stop'))
        self.told(BadProgram, 6, Program, body('try', '  try', '    stop', 'catch', '  stop'))
        self.told(BadProgram, 6, Program, body('if x = 1', '  try', '    stop', 'stop'))
        self.told(BadProgram, 6, Program, body('if x = 1', '  try', '    stop'))
        self.told(BadProgram, 6, Program, body('if x = 1', '  try', '    stop') + '\nhand k\n  stop')

    def test_else_and_catch_where_they_cannot_stand(self):
        self.told(BadProgram, 5, Program, body('while x = 1', '  stop', 'else', '  stop'))
        self.told(BadProgram, 5, Program, body('try', '  stop', 'else', '  stop'))
        self.told(BadProgram, 5, Program, body('if x = 1', '  stop', 'catch', '  stop'))
        self.told(BadProgram, 7, Program, body('if x = 1', '  stop', 'else', '  stop', 'else', '  stop'))
        self.told(BadProgram, 7, Program, body('try', '  stop', 'catch', '  stop', 'catch w', '  stop'))
        self.told(BadProgram, 6, Program, body('if x = 1', '  stop', 'stop', 'else', '  stop'))
        self.told(BadProgram, 7, Program, body('if x = 1', '  if x = 2', '    stop', '  stop', '  else', '    stop'))
        self.told(BadProgram, 4, Program, body('stop', '  catch', '  stop'))
        self.told(BadProgram, 5, Program, body('if x = 1', '  stop', '  else', '    stop'))

    def test_depth_of_rows(self):
        self.told(BadProgram, 4, Program, body('stop', '  stop'))
        self.told(BadProgram, 3, Program, body('  stop'))
        self.told(BadProgram, 4, Program, body('if x = 1', '    stop'))
        self.told(BadProgram, 4, Program, body('if x = 1', ' stop'))
        self.told(BadProgram, 5, Program, body('if x = 1', '  stop', '   stop'))


class TestBounds(Case):
    def test_rows(self):
        self.assertEqual(len(Program(body(*['stop'] * 20)).rows), 20)
        self.told(BadProgram, 23, Program, body(*['stop'] * 21))
        self.told(BadProgram, 23, Program, body(*['stop'] * 22))

    def test_rows_of_all_bodies(self):
        def text(many):
            return '\n'.join(['hand h', *['  stop'] * 9, 'hand k', *['  stop'] * 8, 'part p', *['  stop'] * many])
        self.assertEqual(len(Program(text(3)).rows), 20)
        self.told(BadProgram, 23, Program, text(4))

    def test_else_and_catch_are_no_rows(self):
        nested = ['if x = 1', '  stop', 'else', '  stop', 'try', '  stop', 'catch', '  stop', 'while x = 0', '  stop']
        self.assertEqual(len(Program(body(*nested, *['stop'] * 12)).rows), 20)
        self.told(BadProgram, 3 + 22, Program, body(*nested, *['stop'] * 13))

    def test_the_last_row_has_a_body(self):
        self.told(BadProgram, 23, Program, body(*['stop'] * 19, 'if x = 1', '  stop'))
        self.told(BadProgram, 23, Program, body(*['stop'] * 19, 'if x = 1'))

    def test_bodies_in_one_another(self):
        rows = ['if x = 1', '  while x = 1', '    if x = 1', '      stop']
        Program(body(*rows))
        Program(body(*rows, '    else', '      stop', '      stop', 'stop'))
        self.told(BadProgram, 7, Program, body(*rows[:3], '      if x = 1', '        stop'))
        self.told(BadProgram, 7, Program, body(*rows[:3], '      try', '        stop', '      catch', '        stop'))
        self.told(BadProgram, 7, Program, body(*rows[:3], '      if x = 1', '      stop'))
        self.told(BadProgram, 7, Program, body(*rows[:3], '      if x = 1'))
        deep = ('try', '  try', '    stop', '  catch', '    if x = 1')
        Program(body(*deep, '      stop', 'catch', '  stop'))
        self.told(BadProgram, 9, Program, body(*deep, '      if x = 1', '        stop', 'catch', '  stop'))
        self.told(BadProgram, 9, Program, body(*deep, '      if x = 1', 'catch', '  stop'))

    def test_the_row_above_a_fifth_body_is_fine(self):
        text = body('if x = 1', '  if x = 1', '    if x = 1', '      while x = 1', '        nonsense')
        self.told(BadProgram, 7, Program, text)

    def test_labels(self):
        def rows(many):
            return ['abcdefghijk'[k] + ': stop' for k in range(many)]
        self.assertEqual(len(Program(body(*rows(8))).labels), 8)
        self.assertEqual(len(Program(body(*rows(8), 'stop')).labels), 8)
        self.told(BadProgram, 3 + 8, Program, body(*rows(9)))
        self.told(BadProgram, 3 + 9, Program, body(*rows(8), 'stop', 'i: stop'))
        self.told(BadProgram, 3 + 8, Program, body(*['a: stop'] * 9))


class TestDoubled(Case):
    def test_names(self):
        heads = ('cell a 1', 'keep b 1', 'cell c 1', 'lock d', 'lock e', 'hand f', '  stop', 'hand g', '  stop',
                 'part i', '  stop', 'part j', '  stop')
        Program('\n'.join(heads))
        places = [k for k in range(len(heads)) if heads[k][0] != ' ']
        for late in places:
            for early in places:
                if early < late:
                    lines = list(heads)
                    words = lines[late].split(' ')
                    words[1] = lines[early].split(' ')[1]
                    lines[late] = ' '.join(words)
                    self.told(Doubled, late, Program, '\n'.join(lines))

    def test_labels(self):
        self.told(Doubled, 4, Program, body('a: stop', 'a: stop'))
        self.told(Doubled, 5, Program, body('a: if x = 1', '  b: stop', 'a: stop'))
        self.told(Doubled, 5, Program, body('a: stop') + '\npart p\n  a: stop')
        Program(body('x: stop', 'l: stop', 'h: stop', 'w: stop'))

    def test_the_first_of_both(self):
        self.told(Doubled, 2, Program, 'hand h\n  a: stop\nhand h\n  a: stop')
        self.told(Doubled, 2, Program, 'hand h\n  a: stop\n  a: stop\nhand h\n  stop')
        self.told(Doubled, 1, Program, 'cell x 1\nlock x\nhand x\n  a: stop\n  a: stop')


class TestUnnamed(Case):
    def test_each_word(self):
        for row in ('set y 1', 'set x y', 'set l 1', 'set x h', 'add y 1', 'add p 1', 'ask y', 'ask w', 'log 1 w y',
                    'log 1 w x y', 'log 1 w y.odd', 'log 1 w x l.some', 'log 1 x h', 'take m', 'take x', 'give m',
                    'give h', 'start k', 'start p', 'join k', 'join x', 'call q', 'call h', 'call l',
                    'if y = 1\n    stop', 'if x = y\n    stop', 'while y = x\n    stop', 'while x > l\n    stop'):
            self.told(Unnamed, 4, Program, body('stop', row) + '\npart p\n  stop')

    def test_names_that_come_later_are_there(self):
        Program('hand h\n  start k\n  call p\nhand k\n  join h\npart p\n  call p')

    def test_words_are_no_names(self):
        Program('hand h\n  log 1 w\n  fail v\n  try\n    stop\n  catch u\n    stop')

    def test_the_first_line(self):
        self.told(Unnamed, 3, Program, body('set y z', 'ask y'))
        self.told(Unnamed, 4, Program, body('if x = 1', '  take x', 'ask y'))


class TestSeveralAtOnce(Case):
    def test_sequence_of_errors(self):
        self.told(BadProgram, 5, Program, body('ask y', 'stop', 'go'))
        self.told(BadProgram, 5, Program, 'cell x 1\ncell x 1\nhand h\n  a: ask y\n  a: stop\n nonsense')
        self.told(Doubled, 1, Program, 'cell x 1\ncell x 1\nhand h\n  ask y\n  stop')
        self.told(Doubled, 5, Program, 'cell x 1\nhand h\n  ask y\n  a: stop\n  b: stop\n  a: stop')
        self.told(Unnamed, 2, Program, 'cell x 1\nhand h\n  ask y\n  ask z')
        self.told(BadProgram, 3, Program, 'hand h\n  a: ask y\nhand h\npart p')
        self.told(BadProgram, 4, Program, 'hand h\n  a: ask y\nhand h\n  try')


if __name__ == '__main__':
    unittest.main()
