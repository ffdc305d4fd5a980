import unittest

from loggedruns.errors import BadQuestion, BadRun
from loggedruns.questions import facts, is_question, judge
from loggedruns.stands import led, state
from tests import generate, plain
from tests.common import AGAIN, GATE, ODD, TINY, Case, do, maker, nested, write

# Cells with MOST 2 and 1, a lock, parts, all kinds of labelled rows.
WIDE = ('cell x 2\nkeep y 1\nlock l\nbox 2\nagain 2\nhand one\n  a: ask x\n  b: set y 1\n  c: call p\n  d: log 1 u x\n'
        'hand two\n  e: take l\n  log 1 v\n  log 1 two\npart p\n  f: add x -1\npart q\n  g: if x > 0\n    h: stop')
GO = ('h', 'go', ())


class TestIsQuestion(Case):
    def setUp(self):
        self.program = maker(WIDE).program

    def are(self, fine, *values):
        for value in values:
            self.assertIs(is_question(self.program, value), fine, value)
            self.assertIs(is_question(program=self.program, value=('not', value)), fine)

    def test_did(self):
        self.are(True, *[('did', label, n) for label in 'abcdefgh' for n in (1, 2, 3)])
        self.are(False, ('did', 'a', 0), ('did', 'a', 4), ('did', 'a', -1), ('did', 'a', True), ('did', 'a', '1'),
                 ('did', 'a', None), ('did', 'i', 1), ('did', 'x', 1), ('did', None, 1), ('did', ('a',), 1),
                 ('did', ['a'], 1), ('did', 'a'), ('did', 'a', 1, 1), ('did',), ['did', 'a', 1], ('Did', 'a', 1),
                 (['did'], 'a', 1), ('did', {}, 1), ('did', 1, 'a'), ('did', 'a', [1]), ('did', 6, 1))

    def test_ahead(self):
        self.are(True, ('ahead', 'a', 'b'), ('ahead', 'b', 'a'), ('ahead', 'h', 'h'))
        self.are(False, ('ahead', 'a', 'i'), ('ahead', 'i', 'a'), ('ahead', 'a', None), ('ahead', 'a'), ('ahead', 'a', 1),
                 ('ahead', 'a', 'b', 'c'), ('ahead', ['a'], 'b'), ('ahead', 'a', ('b',)), ('ahead', 'one', 'two'))

    def test_asked(self):
        self.are(True, ('asked', 'a', 0), ('asked', 'a', 1), ('asked', 'a', 2))
        self.are(False, ('asked', 'a', 3), ('asked', 'a', -1), ('asked', 'a', None), ('asked', 'a', True),
                 ('asked', 'b', 1), ('asked', 'f', 1), ('asked', 'd', 1), ('asked', 'x', 1), ('asked', 'a'),
                 ('asked', 'a', 1, 2), ('asked', ('a',), 1), ('asked', 'a', '1'), ('asked', 'a', (1,)))

    def test_was_and_is(self):
        for word in ('was', 'is'):
            self.are(True, (word, 'x', 0), (word, 'x', 2), (word, 'y', 0), (word, 'y', 1))
            self.are(False, (word, 'x', 3), (word, 'y', 2), (word, 'x', -1), (word, 'x', True), (word, 'l', 0),
                     (word, 'z', 0), (word, 'a', 0), (word, 'x', None), (word, 'x'), (word, 'x', 0, 0), (word, 'one', 0),
                     (word, None, 0), (word, ['x'], 0), (word, 0, 0), (word, 'x', 'y'), (word, ('x',), 0))

    def test_by(self):
        self.are(True, ('by', 'x', 'a'), ('by', 'x', 'f'), ('by', 'y', 'b'), ('by', 'x', None), ('by', 'y', None))
        self.are(False, ('by', 'x', 'b'), ('by', 'y', 'a'), ('by', 'y', 'f'), ('by', 'x', 'd'), ('by', 'x', 'g'),
                 ('by', 'x', 'c'), ('by', 'l', 'e'), ('by', 'l', None), ('by', 'x', 'i'), ('by', 'x'), ('by', 'x', 0),
                 ('by', 'x', False), ('by', 'x', ''), ('by', 'x', ('a',)), ('by', 'x', ['a']), ('by', None, 'a'),
                 ('by', 'x', 'a', 'a'))

    def test_at(self):
        self.are(True, *[('at', 'one', label) for label in 'abcdfgh'], *[('at', 'two', label) for label in 'efgh'],
                 ('at', 'one', None), ('at', 'two', None))
        self.are(False, ('at', 'one', 'e'), ('at', 'two', 'a'), ('at', 'two', 'd'), ('at', 'p', 'f'), ('at', 'one', 'i'),
                 ('at', 'three', None), ('at', None, 'a'), ('at', 'one', 0), ('at', 'one', 3), ('at', 'one', False),
                 ('at', 'one', ()), ('at', 'one'), ('at', ['one'], 'a'), ('at', 0, 'a'), ('at', 'one', 'a', 'a'))

    def test_fell_spilt_ended(self):
        self.are(True, ('fell', 1), ('fell', 2), ('fell', 3), ('spilt', 'u', 1), ('spilt', 'v', 3), ('spilt', 'two', 2),
                 *[('ended', word) for word in ('done', 'fallen', 'stuck', 'open')])
        self.are(False, ('fell', 0), ('fell', 4), ('fell', True), ('fell',), ('fell', 1, 1), ('fell', 'a', 1), ('fell', None),
                 ('spilt', 'w', 1), ('spilt', 'u', 0), ('spilt', 'u', 4), ('spilt', 'u', True), ('spilt', 'u'),
                 ('spilt', None, 1), ('spilt', ('u',), 1), ('spilt', ['u'], 1), ('spilt', 'one', 1), ('spilt', 1, 'u'),
                 ('spilt', 'u', 1, 1), ('ended', 'over'), ('ended', None), ('ended', 'Done'), ('ended',),
                 ('ended', 'done', 1), ('ended', ['done']), ('ended', ('done',)), ('ended', True))

    def test_words_of_rows_below_the_level(self):
        made = maker('hand h\n  log 1 u\n  fail w\npart p\n  log 3 v', level=3)
        self.assertIs(is_question(made.program, ('spilt', 'u', 1)), True)
        self.assertIs(is_question(made.program, ('spilt', 'v', 1)), True)
        self.assertIs(is_question(made.program, ('spilt', 'w', 1)), False)

    def test_joined(self):
        did, fell = ('did', 'a', 1), ('fell', 1)
        self.are(True, ('not', did), ('and', did, fell), ('or', did, did, did), ('and', did, fell, did, fell),
                 ('or', ('and', did, fell), ('not', did), fell), ('not', ('not', did)))
        self.are(False, ('not',), ('not', did, fell), ('and',), ('and', did), ('or', did), ('or',), ('xor', did, fell),
                 ('and', did, ('did', 'i', 1)), ('or', did, None), ('and', [did, fell]), ('and', (did, fell)), ['and', did, fell],
                 ('and', did, list(fell)), ('not', [fell]), ('not', ()), ('not', None), ('and', did, ()), (did, fell), (did,),
                 ('and', did, did, None), ('or', did, ('did', 'i', 1), did), ('and', None, did, did, did), ('or', did, did, ()),
                 ('or', did, ('and', did)), ('or', did, ('not', did, did)), (('not',), did), (None, did), ([], did))

    def test_at_most_four_facts(self):
        did = ('did', 'a', 1)
        for word in ('and', 'or'):
            for many in range(2, 7):
                self.are(many <= 4, (word, *[did] * many), ('not', (word, *[did] * many)))
            self.are(True, (word, (word, did, did), (word, did, did)))
            self.are(False, (word, (word, did, did), (word, did, did, did)), (word, (word, did, did), did, did, did))
            self.are(True, (word, did, ('not', did), ('not', did), did))
            self.are(False, (word, did, ('not', did), ('not', did), did, ('not', did)))

    def test_nested(self):
        did = ('did', 'a', 1)
        for many in range(12):
            value = did
            for _ in range(many):
                value = ('not', value)
            self.assertIs(is_question(self.program, value), many <= 4)
        for deep, fine in ((2, True), (3, True), (4, False)):
            value = ('and', did, did)
            for _ in range(deep):
                value = ('not', value)
            self.assertIs(is_question(self.program, value), fine)
            self.assertIs(is_question(self.program, ('or', value, did)), fine and deep < 3)
        self.assertIs(is_question(self.program, ('and', did, ('or', did, ('and', did, ('not', did))))), True)
        self.assertIs(is_question(self.program, ('and', did, ('or', did, ('and', did, ('not', ('not', did)))))), False)

    def test_any_value(self):
        for value in ODD:
            self.are(False, value, (value,), ('not', value), ('and', value, value), ('ended', value), (value, 'a', 1),
                     (value, ('did', 'a', 1)), ('asked', 'a', (value,)), ('by', 'x', [value]))
            if value != 'a':
                self.are(False, ('did', value, 1), ('ahead', 'b', value), ('spilt', value, 1))
            if value is not None and value != 'a':
                self.are(False, ('at', 'one', value), ('by', 'x', value))
        did = ('did', 'a', 1)
        self.are(False, nested(28, lambda value: ('not', value)), ('and',) * 30, ('not', ('or', did, nested(25, lambda value: [value]))))


class TestFacts(Case):
    def test_in_sequence(self):
        one, two, three, four = ('did', 'a', 1), ('fell', 2), ('by', 'x', None), ('ended', 'done')
        for question, found in ((one, (one,)), (three, (three,)), (('not', two), (two,)), (('and', two, one), (two, one)),
                                (('or', one, one), (one, one)),
                                (('or', ('and', one, ('not', two)), three, four), (one, two, three, four)),
                                (('not', ('and', four, ('or', three, two), one)), (four, three, two, one))):
            self.same(facts(question), found)
            self.same(self.unchanged(facts, question=question), found)


class TestJudge(Case):
    def judged(self, made, run, **expected):
        """Facts that are true of a run, and such that are not, as tuples of them."""
        for fact in expected.get('true', ()):
            self.assertIs(judge(made, fact, run), True, fact)
            self.assertIs(judge(made, ('not', fact), run), False)
        for fact in expected.get('false', ()):
            self.assertIs(judge(made, fact, run), False, fact)
            self.assertIs(judge(made, ('not', fact), run), True)

    def test_the_empty_run(self):
        made = maker(WIDE)
        self.judged(made, (), true=(('was', 'x', 0), ('is', 'x', 0), ('by', 'x', None), ('by', 'y', None), ('at', 'one', 'a'),
                                    ('at', 'two', None), ('ended', 'open')),
                    false=(('did', 'a', 1), ('ahead', 'a', 'b'), ('ahead', 'a', 'a'), ('asked', 'a', 0), ('was', 'x', 1),
                           ('is', 'x', 1), ('by', 'x', 'a'), ('at', 'one', 'b'), ('at', 'one', None), ('at', 'two', 'e'),
                           ('fell', 1), ('spilt', 'u', 1), ('ended', 'done')))

    def test_did(self):
        made = maker('cell x 3\nhand h\n  ask x\n  a: while x > 0\n    b: add x -1')
        for many in range(4):
            run = (do(0, many), *[do(0), do(0)] * many, do(0))
            for n in (1, 2, 3):
                self.judged(made, run, **{'true' if many + 1 >= n else 'false': (('did', 'a', n),)})
                self.judged(made, run, **{'true' if many >= n else 'false': (('did', 'b', n),)})

    def test_did_by_a_fault(self):
        made = maker('cell x 1\nhand h\n  try\n    a: add x -1\n  catch\n    b: stop')
        self.judged(made, (do(0),), true=(('did', 'a', 1), ('by', 'x', None), ('at', 'h', 'b'), ('ended', 'open')),
                    false=(('did', 'a', 2), ('did', 'b', 1), ('by', 'x', 'a'), ('fell', 1)))

    def test_did_by_two_hands(self):
        made = maker('hand one\n  start two\n  call p\nhand two\n  call p\npart p\n  a: flush\n  b: flush')
        run = (do(0), do(0), do(1), do(1), do(0))
        self.judged(made, run, true=(('did', 'a', 2), ('at', 'one', 'b'), ('at', 'two', 'b'), ('ahead', 'a', 'b')),
                    false=(('did', 'a', 3), ('did', 'b', 1), ('at', 'one', 'a'), ('at', 'one', None)))
        self.judged(made, (*run, do(0), do(1)), true=(('did', 'b', 2), ('at', 'one', None), ('ended', 'done')))

    def test_ahead(self):
        made = maker('cell x 1\nhand h\n  ask x\n  if x = 0\n    a: set x 0\n  b: set x 1\n  c: while x > 0\n    d: set x 0')
        first, other = (do(0, 0), do(0), do(0), do(0)), (do(0, 1), do(0), do(0))
        self.judged(made, first, true=(('ahead', 'a', 'b'), ('ahead', 'a', 'd'), ('ahead', 'a', 'a'), ('ahead', 'b', 'b')),
                    false=(('ahead', 'b', 'a'), ('ahead', 'd', 'a'), ('ahead', 'd', 'd'), ('ahead', 'c', 'd')))
        self.judged(made, other, true=(('ahead', 'b', 'a'), ('ahead', 'b', 'b')),
                    false=(('ahead', 'a', 'b'), ('ahead', 'a', 'a'), ('ahead', 'c', 'a')))
        whole = (*other, do(0), do(0), do(0))
        self.judged(made, whole, true=(('ahead', 'c', 'd'), ('ahead', 'b', 'c'), ('ahead', 'd', 'a')),
                    false=(('ahead', 'd', 'c'), ('ahead', 'c', 'b')))

    def test_ahead_is_of_the_first_time(self):
        made = maker('cell x 2\nhand h\n  while x < 2\n    a: add x 1\n    b: log 1 u')
        run = (do(0), do(0), do(0), do(0), do(0), do(0))
        self.judged(made, run, true=(('ahead', 'a', 'b'),), false=(('ahead', 'b', 'a'),))

    def test_asked(self):
        made = maker('cell x 2\nhand h\n  while x < 2\n    a: ask x\n  b: ask x')
        run = (do(0), do(0, 0), do(0), do(0, 2), do(0), do(0, 1))
        self.judged(made, run, true=(('asked', 'a', 0), ('asked', 'a', 2), ('asked', 'b', 1)),
                    false=(('asked', 'a', 1), ('asked', 'b', 0), ('asked', 'b', 2)))
        self.judged(made, run[:3], true=(('asked', 'a', 0),), false=(('asked', 'a', 2),))

    def test_was_and_is(self):
        made = maker('cell x 3\nhand h\n  a: set x 2\n  b: add x 2\n  c: set x 1')
        self.judged(made, (do(0),), true=(('was', 'x', 0), ('was', 'x', 2), ('is', 'x', 2)),
                    false=(('is', 'x', 0), ('was', 'x', 1), ('was', 'x', 3)))
        # The add is a fault: the cell keeps its value, and the program falls.
        self.judged(made, (do(0), do(0)), true=(('is', 'x', 2), ('by', 'x', 'a'), ('fell', 1), ('ended', 'fallen')),
                    false=(('was', 'x', 3), ('by', 'x', 'b')))

    def test_was_behind_a_beginning_anew(self):
        made = maker('cell x 1\nkeep y 1\nagain 1\nhand h\n  a: set x 1\n  b: set y 1\n  fail w')
        run = (do(0), do(0), do(0), AGAIN)
        self.judged(made, run, true=(('was', 'x', 1), ('is', 'x', 0), ('is', 'y', 1), ('by', 'x', None), ('by', 'y', 'b'),
                                     ('at', 'h', 'a'), ('ended', 'open')),
                    false=(('by', 'x', 'a'), ('by', 'y', None), ('is', 'x', 1)))
        self.judged(made, run[:3], true=(('is', 'x', 1), ('by', 'x', 'a'), ('ended', 'open'), ('at', 'h', None)),
                    false=(('by', 'x', None), ('ended', 'fallen')))
        self.judged(made, (*run, do(0)), true=(('by', 'x', 'a'), ('by', 'y', 'b')), false=(('by', 'x', None),))
        self.judged(made, (*run, do(0), do(0), do(0)), true=(('fell', 2), ('ended', 'fallen'), ('is', 'x', 1)),
                    false=(('fell', 3),))

    def test_was_zero_again(self):
        made = maker('cell x 1\nhand h\n  a: set x 1\n  b: set x 0')
        self.judged(made, (do(0),), true=(('was', 'x', 0),))

    def test_by(self):
        made = maker('cell x 2\ncell y 2\nhand h\n  a: set x 0\n  b: ask x\n  set x 1\n  c: add x 1\n  d: set y x\n  e: if x > y\n'
                     '    f: set x 0')
        run = (do(0), do(0, 0), do(0), do(0), do(0), do(0))
        for many, giver in ((0, None), (1, 'a'), (2, 'b'), (3, ''), (4, 'c'), (5, 'c'), (6, 'c')):
            for label in (None, 'a', 'b', 'c', 'f'):
                self.judged(made, run[:many], **{'true' if label == giver else 'false': (('by', 'x', label),)})
            self.judged(made, run[:many], **{'true' if many > 4 else 'false': (('by', 'y', 'd'),)})

    def test_at(self):
        made = maker('hand h\n  a: call p\n  b: flush\npart p\n  c: call q\n  d: flush\npart q\n  e: flush')
        run = (do(0), do(0), do(0), do(0), do(0))
        for many, label in enumerate(('a', 'c', 'e', 'd', 'b', None)):
            for other in (None, 'a', 'b', 'c', 'd', 'e'):
                self.judged(made, run[:many], **{'true' if label == other else 'false': (('at', 'h', other),)})

    def test_fell_and_spilt(self):
        made = maker('cell x 1\nbox 2\nagain 2\nhand one\n  start two\n  log 1 u\n  log 1 v\n  a: fail w\nhand two\n  log 1 u')
        once = (do(0), do(0), do(0), do(1), do(0))
        self.judged(made, once, true=(('fell', 1), ('spilt', 'u', 1), ('spilt', 'u', 2), ('spilt', 'v', 1)),
                    false=(('fell', 2), ('spilt', 'u', 3), ('spilt', 'v', 2)))
        self.judged(made, once[:4], false=(('fell', 1), ('spilt', 'u', 1)))
        # What was written is not spilt.
        other = (*once[:4], write(0), do(0))
        self.judged(made, other, true=(('spilt', 'u', 1), ('spilt', 'v', 1)), false=(('spilt', 'u', 2),))
        twice = (*other, AGAIN, *once)
        self.judged(made, twice, true=(('fell', 2), ('spilt', 'u', 3), ('spilt', 'v', 2)),
                    false=(('fell', 3), ('spilt', 'v', 3), ('ended', 'fallen')))
        thrice = (*twice, AGAIN, *once)
        self.judged(made, thrice, true=(('fell', 3), ('spilt', 'u', 3), ('spilt', 'v', 3), ('ended', 'fallen')))
        self.judged(made, (*twice, AGAIN), true=(('fell', 2),), false=(('fell', 3),))

    def test_entries_below_the_level_are_not_spilt(self):
        made = maker('box 1\nhand h\n  log 1 u\n  fail w', level=2)
        self.judged(made, (do(0), do(0)), true=(('fell', 1),), false=(('spilt', 'u', 1),))

    def test_ended(self):
        made = maker('cell x 2\nlock l\nhand one\n  start two\n  ask x\n  if x = 0\n    fail w\n  if x = 1\n    take l\n'
                     'hand two\n  take l')
        for run, word in (((do(0), do(1), do(0, 0), do(0), do(0)), 'fallen'), ((do(0), do(1), do(0, 1), do(0), do(0)), 'stuck'),
                          ((do(0), do(1), do(0, 2), do(0), do(0)), 'done'), ((do(0), do(0, 2), do(0), do(0)), 'open'),
                          ((), 'open')):
            self.same(state(made, led(made, run)), word)
            for other in ('done', 'fallen', 'stuck', 'open'):
                self.judged(made, run, **{'true' if other == word else 'false': (('ended', other),)})

    def test_joined(self):
        made = maker(TINY)
        run = (do(0, 1), do(0))
        yes, no = ('did', 'a', 1), ('did', 'b', 1)
        self.judged(made, run, true=(('and', yes, yes), ('or', no, yes), ('or', yes, no), ('and', yes, ('not', no)),
                                     ('or', no, no, no, yes), ('and', ('or', no, yes), ('or', yes, no)),
                                     ('not', ('and', yes, no)), ('and', yes, yes, yes, yes)),
                    false=(('and', yes, no), ('and', no, yes), ('or', no, no), ('and', yes, yes, no), ('not', ('or', no, yes)),
                           ('and', ('or', no, no), yes)))

    def test_random_questions(self):
        asked = 0
        for rng, made, runs in generate.makers(21, 60):
            for _ in range(6):
                question = generate.question(rng, made.program)
                if not is_question(made.program, question):
                    self.assertGreater(len(plain.facts(question)), 4)
                    continue
                asked += 1
                self.same(facts(question), tuple(plain.facts(question)))
                for run, stands, _ in runs:
                    self.assertIs(judge(made, question, run), plain.is_true(made, question, run, stands))
        self.assertGreater(asked, 250)


class TestWrongValues(Case):
    def test_questions(self):
        made = maker(TINY)
        for value in (*ODD, ('did', 'go', 1), ('not',), ('and', ('did', 'a', 1)), ['did', 'a', 1]):
            self.told(BadQuestion, value, judge, made, value, ())
            self.told(BadQuestion, value, judge, made, value, None)

    def test_runs(self):
        made = maker(GATE)
        for value in (*[value for value in ODD if value != ()], [do(0, 0)], (do(0, 0), do(0, 0)), (do(0),), (do(0, 3),),
                      (do(0, False),), (list(do(0, 0)),), (('do', 0),), (write(0),)):
            self.told(BadRun, value, judge, made, ('did', 'a', 1), value)
        good = {'maker': made, 'question': ('did', 'a', 1), 'run': (do(0, 1),)}
        self.assertIs(judge(**good), True)
        self.told_in_sequence(judge, good, [('question', ('did', 'q', 1), BadQuestion), ('run', (1,), BadRun)])


if __name__ == '__main__':
    unittest.main()
