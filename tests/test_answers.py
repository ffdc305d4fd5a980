import unittest

from loggedruns.answers import answer, shows_answer
from loggedruns.covers import cover
from loggedruns.errors import BadEnd, BadQuestion, BadSheet, TooMany
from loggedruns.fitting import shows_none
from loggedruns.questions import is_question, judge
from loggedruns.sheets import fits
from tests import generate, plain
from tests.common import GATE, ODD, TINY, Case, do, maker
from tests.test_covers import BAD_ENDS, BAD_SHEETS, BEYOND, JUST, stand
from tests.test_often import labelled

GO, HOT, DONE = ('h', 'go', ()), ('h', 'hot', ()), ('one', 'done', ())
ALL = ((None,),)
ENDS = (None, 'over', 'open')


class TestExample(Case):
    def test_gate(self):
        gate = maker(GATE)
        sheet = ((DONE,),)
        self.same([answer(gate, sheet, ('asked', 'a', 0))[0], answer(gate, sheet, ('asked', 'a', 2))[0],
                   answer(gate, sheet, ('did', 'd', 1))[0]], ['always', 'never', 'sometimes'])


class TestAnswer(Case):
    def word(self, made, sheet, question, end=None):
        """The word of an answer, which is looked at."""
        told = answer(made, sheet, question, end=end)
        self.assertIs(shows_answer(maker=made, sheet=sheet, question=question, value=told, end=end), True)
        if told[0] == 'sometimes':
            self.same(len(told), 3)
            self.same([fits(made, sheet, run, end=end) for run in told[1:]], [True, True])
            self.same([judge(made, question, run) for run in told[1:]], [True, False])
        else:
            self.same(len(told), 2)
            self.same(told[1], tuple(sorted(told[1])))
        return told[0]

    def words(self, made, *cases):
        for sheet, question, end, expected in cases:
            self.same(self.word(made, sheet, question, end), expected)

    def test_ends(self):
        made = maker(TINY)
        asked = ('asked', 'a', 1)
        self.words(made, (((GO,),), asked, None, 'sometimes'), (((GO,),), asked, 'over', 'never'),
                   (((GO,),), asked, 'open', 'sometimes'), (((GO, HOT),), asked, None, 'always'),
                   (((GO, None),), asked, 'over', 'sometimes'), (((2,),), asked, 'over', 'always'),
                   (((3,),), asked, None, 'none'), (((),), asked, 'over', 'none'), (((HOT,), (None,)), asked, None, 'none'),
                   (((1, None), (None, HOT)), asked, None, 'always'), (((),), ('ended', 'open'), None, 'always'),
                   (((GO,),), ('ended', 'done'), 'over', 'always'), (((GO,),), ('ended', 'done'), 'open', 'never'))

    def test_the_table_of_a_sure_answer(self):
        made = maker('cell x 1\nhand h\n  a: ask x\n  log 1 u x')
        first, none = (((2,),), (0,), (), ((),), 0, 0, False), (((3,),), (0,), (), ((),), 0, 0, False)
        one, last = (((3,),), (1,), (), ((),), 0, 0, False), (((),), (1,), (), ((),), 0, 0, False)
        sheet = ((('h', 'u', (1,)),),)
        self.same(answer(made, sheet, ('asked', 'a', 1)),
                  ('always', ((last, ((1, 0),), (1,)), (first, ((0, 0),), (0,)), (none, ((0, 0),), (0,)),
                              (one, ((0, 0),), (1,)))))
        self.same(answer(made, sheet, ('or', ('asked', 'a', 0), ('is', 'x', 0))),
                  ('never', ((last, ((1, 0),), (0, 0)), (first, ((0, 0),), (0, 0)), (none, ((0, 0),), (1, 0)),
                             (one, ((0, 0),), (0, 0)))))
        told = answer(made, ((('h', 'u', (2,)),),), ('did', 'a', 2))
        self.same(told, ('none', cover(made, ((('h', 'u', (2,)),),))))
        self.assertIs(shows_none(made, ((('h', 'u', (2,)),),), told[1]), True)

    def test_memories(self):
        """Each fact in the members of a table, one for each memory."""
        made = maker('cell x 1\nkeep y 1\nbox 1\nagain 1\nhand h\n  a: ask x\n  b: set y 1\n  c: log 1 u\n  if x = 0\n'
                     '    fail w\n  d: set x 0')
        for question, marks in ((('did', 'a', 1), (0, 1)), (('did', 'a', 3), (0, 1, 2)), (('fell', 1), (0, 1)),
                                (('fell', 3), (0, 1, 2)), (('spilt', 'u', 1), (0, 1)), (('ahead', 'a', 'c'), (0, 1)),
                                (('ahead', 'c', 'a'), (0, 2)), (('ahead', 'd', 'd'), (0, 1)), (('asked', 'a', 1), (0, 1)),
                                (('was', 'x', 0), (1,)), (('was', 'x', 1), (0, 1)), (('by', 'x', None), (0, 1)),
                                (('by', 'x', 'd'), (0, 1)), (('by', 'y', None), (0, 1)), (('is', 'x', 0), (0,)),
                                (('at', 'h', 'a'), (0,)), (('ended', 'done'), (0,))):
            _, table = answer(made, ((None,),), ('or', question, ('not', question)))
            self.same(sorted({memory for _, _, memory in table}), sorted({(mark, mark) for mark in marks}))

    def test_falls(self):
        made = maker('cell x 1\nbox 1\nagain 1\nhand h\n  a: ask x\n  log 1 u\n  if x = 0\n    fail w\n  log 1 v')
        u, v = ('h', 'u', ()), ('h', 'v', ())
        self.words(made, (((u, v),), ('fell', 1), None, 'sometimes'), (((u, u),), ('fell', 1), None, 'always'),
                   (((u, u),), ('spilt', 'u', 1), None, 'never'), (((u, v),), ('spilt', 'u', 1), 'over', 'sometimes'),
                   (((u, v),), ('fell', 2), None, 'never'), (((),), ('spilt', 'u', 2), 'over', 'always'),
                   (((),), ('spilt', 'u', 1), 'open', 'sometimes'), (((u,),), ('ended', 'fallen'), 'over', 'always'))

    def test_stuck_and_done(self):
        made = maker('lock l\nhand one\n  start two\n  a: take l\n  join two\nhand two\n  b: take l')
        self.words(made, (((),), ('ended', 'stuck'), 'over', 'always'), (((),), ('ahead', 'a', 'b'), 'over', 'sometimes'),
                   (((),), ('or', ('ended', 'done'), ('ended', 'stuck')), 'over', 'always'),
                   (((),), ('and', ('at', 'two', None), ('did', 'b', 1), ('ended', 'stuck')), 'over', 'sometimes'),
                   (((),), ('and', ('did', 'b', 1), ('did', 'a', 1)), None, 'never'))
        made = maker('lock l\nhand one\n  start two\n  a: take l\n  b: give l\nhand two\n  c: take l')
        self.words(made, (((),), ('ended', 'done'), 'over', 'sometimes'), (((),), ('ended', 'stuck'), 'over', 'sometimes'),
                   (((),), ('ended', 'stuck'), 'open', 'never'), (((),), ('and', ('ended', 'stuck'), ('did', 'a', 1)), None, 'never'),
                   (((),), ('or', ('ended', 'done'), ('at', 'one', 'a')), 'over', 'always'))

    def test_endless_programs(self):
        made = maker('cell x 1\nhand h\n  while x = 0\n    a: ask x\n    log 1 u')
        self.words(made, (ALL, ('did', 'a', 3), None, 'sometimes'), (((3,),), ('did', 'a', 3), None, 'always'),
                   (((3,),), ('asked', 'a', 1), 'over', 'always'), (((3,),), ('asked', 'a', 0), 'over', 'always'),
                   (((1,),), ('asked', 'a', 0), 'over', 'never'), (((9, 9),), ('ended', 'stuck'), None, 'never'))

    def test_random(self):
        told = {word: 0 for word in ('none', 'always', 'never', 'sometimes')}
        for rng, made, runs in generate.makers(22, 120, 100):
            question = generate.question(rng, made.program)
            if not is_question(made.program, question):
                continue
            sheet = generate.sheet(rng, [entry for entry in rng.choice(runs)[2] if entry is not None])
            table = plain.minded(made, sheet, lambda run, stands: plain.memory(made, question, run, stands), runs)
            for end in ENDS:
                truths = [plain.is_true(made, question, run, stands) for run, stands in plain.fitted(made, runs, sheet, end)]
                word = self.word(made, sheet, question, end)
                self.same(word, plain.word(truths))
                told[word] += 1
                if word in ('always', 'never'):
                    self.same(answer(made, sheet, question, end=end)[1], table)
                for other in ('always', 'never'):
                    self.assertIs(shows_answer(made, sheet, question, (other, table), end=end), word in (other, 'none'))
                self.assertIs(shows_answer(made, sheet, question, ('none', cover(made, sheet)), end=end), word == 'none')
        self.assertGreater(min(told.values()), 10)

    def test_limit(self):
        just, sheet = labelled(JUST, 'ask y')
        self.same(answer(just, sheet, ('is', 'x', 1)), ('none', cover(just, sheet)))
        self.same(answer(just, sheet, ('fell', 1))[0], 'none')
        # With memories there are more members, though the cover has no more.
        self.told(TooMany, 2000, answer, just, sheet, ('asked', 'a', 1))
        beyond, sheet = labelled(BEYOND, 'log 1 u')
        for question in (('is', 'x', 1), ('did', 'a', 1)):
            self.told(TooMany, 2000, answer, beyond, sheet, question)
        self.told_in_sequence(answer, {'maker': beyond, 'sheet': sheet, 'question': ('did', 'a', 1), 'end': None},
                              [('sheet', 1, BadSheet), ('question', ('did', 'b', 1), BadQuestion), ('end', 1, BadEnd)])
        # Also where two runs are met at once; what looks at them does not raise it.
        wide = maker('cell x 3\ncell y 3\ncell z 3\nhand h\n  a: ask x\n  while x = x\n    ask x\n    ask y\n    ask z')
        sheet = ((None,) * 12,)
        self.told(TooMany, 2000, answer, wide, sheet, ('did', 'a', 1))
        self.assertIs(shows_answer(wide, sheet, ('did', 'a', 1), ('sometimes', (do(0, 0),), ())), True)
        self.assertIs(shows_answer(wide, sheet, ('did', 'a', 1), ('sometimes', (), (do(0, 0),))), False)
        self.assertIs(shows_answer(wide, sheet, ('did', 'a', 1), ('always', ())), False)

    def test_greater_than_the_limit(self):
        just, sheet = labelled(JUST, 'ask y')
        table = [(one, spot, (0,)) for one, spot in cover(just, sheet)]
        last = (((),), (3, 0), (), ((),), 0, 0, False)
        table = tuple(sorted([*table, (last, ((0, 0), (4, 0)), (0,)), (last, ((1, 0), (4, 0)), (0,))]))
        self.assertGreater(len(table), 2000)
        self.assertIs(shows_answer(just, sheet, ('ended', 'done'), ('never', table)), True)


class TestShows(Case):
    """TINY: lines 2 ask, 3 log go, 4 if, 5 log hot, 6 stop."""

    question = ('asked', 'a', 1)

    def setUp(self):
        self.made = maker(TINY)

    def shows(self, sheet, value, end=None):
        return shows_answer(self.made, sheet, self.question, value, end=end)

    def test_one_thing_otherwise(self):
        sheet = ((GO, HOT),)
        word, table = answer(self.made, sheet, self.question)
        self.same(word, 'always')
        for k, (one, spot, memory) in enumerate(table):
            bad = [(), (table[k],) * 2, (list(table[k]),), ((one, spot),), ((one, spot, memory, 0),), ((one, spot, list(memory)),),
                   ((one, spot, ()),), ((one, spot, (1 - memory[0],)),), ((one, spot, (2,)),), ((one, spot, (-1,)),),
                   ((one, spot, (None,)),), ((one, spot, (bool(memory[0]),)),), ((one, spot, memory * 2),),
                   ((one, spot, memory[0]),), ((one, list(spot), memory),), ((list(one), spot, memory),), (None,),
                   ((one, ((3, 0),), memory),), ((one[:6] + (0,), spot, memory),)]
            for more in bad:
                self.assertIs(self.shows(sheet, (word, (*table[:k], *more, *table[k + 1:]))), False)
            for other in range(k):
                swapped = list(table)
                swapped[k], swapped[other] = swapped[other], swapped[k]
                self.assertIs(self.shows(sheet, (word, tuple(swapped))), False)
        for value in (('never', table), ('none', table), ('sometimes', table), (word, list(table)), [word, table], (word,),
                      (word, table, table), (table, word), ('Always', table), (True, table), (['always'], table),
                      (('always',), table), table, (None, table), ('none', cover(self.made, sheet))):
            self.assertIs(self.shows(sheet, value), False)
        self.assertIs(self.shows(sheet, (word, table)), True)
        self.assertIs(self.shows(((GO,),), (word, table)), False)
        self.assertIs(self.shows(sheet, (word, table), end='over'), True)

    def test_greater_tables(self):
        sheet = ((GO, HOT),)
        _, table = answer(self.made, sheet, self.question)
        # Members that no run comes to: where they close, the question has to be true there, too.
        for mark, fine in ((1, True), (0, False)):
            more = (stand(0, 0), ((2, 0),), (mark,))
            self.assertIs(self.shows(sheet, ('always', tuple(sorted([*table, more])))), fine)
            self.assertIs(self.shows(sheet, ('always', tuple(sorted([*table, more]))), end='open'), True)
        for spot in range(2):
            more = (stand(0, 1), ((spot, 0),), (0,))
            self.assertIs(self.shows(sheet, ('always', tuple(sorted([*table, more])))), True)
        # It is not closed any more.
        self.assertIs(self.shows(sheet, ('always', tuple(sorted([*table, (stand(6, 0), ((2, 0),), (1,))])))), False)

    def test_memories_by_their_forms(self):
        made = maker(TINY + '\n  log 1 u')
        last = stand(0, 0)
        for question, most in ((('did', 'a', 2), 2), (('did', 'a', 3), 3), (('ahead', 'a', 'b'), 2), (('ahead', 'a', 'a'), 2),
                               (('asked', 'a', 0), 1), (('was', 'x', 1), 1), (('by', 'x', None), 1), (('is', 'x', 0), 0),
                               (('at', 'h', 'a'), 0), (('fell', 3), 3), (('fell', 1), 1), (('spilt', 'u', 2), 2),
                               (('ended', 'done'), 0)):
            _, table = answer(made, ((),), ('or', question, ('not', question)))
            for mark in range(-1, 5):
                for other in range(-1, 5):
                    more = (last, ((0, 0),), (mark, other))
                    told = shows_answer(made, ((),), ('or', question, ('not', question)),
                                        ('always', tuple(sorted({*table, more}))), end='open')
                    self.assertIs(told, 0 <= mark <= most and 0 <= other <= most, (question, more))

    def test_two_runs(self):
        sheet = ((GO,),)
        word, one, other = answer(self.made, sheet, self.question)
        self.same([word, one, other], ['sometimes', (do(0, 1), do(0)), (do(0, 0), do(0))])
        longer = (do(0, 1), do(0), do(0))
        for value, fine in (((word, longer, other), True), ((word, other, one), False), ((word, one, one), False),
                            ((word, other, other), False), ((word, one), False), ((word, one, other, other), False),
                            ((word, (*longer, do(0)), other), False), ((word, one, (do(0, 0),)), False),
                            ((word, list(one), other), False), ((word, one, list(other)), False), ([word, one, other], False),
                            (('always', one, other), False), ((word, (do(0, True), do(0)), other), False),
                            ((word, (do(0, 1), do(0), None), other), False), ((word, None, other), False),
                            ((word, one, None), False), ((word, (), ()), False), ((one, other, word), False)):
            self.assertIs(self.shows(sheet, value), fine)
        self.assertIs(self.shows(sheet, (word, one, other), end='open'), True)
        self.assertIs(self.shows(sheet, (word, one, other), end='over'), False)
        # Both have to fit, whatever is true of them.
        self.assertIs(self.shows(((GO, None),), (word, (*longer, do(0)), other)), True)

    def test_where_no_run_fits(self):
        for sheet, end in ((((HOT,),), None), (((),), 'over'), (((3,),), 'open')):
            word, least = answer(self.made, sheet, self.question, end=end)
            self.same(word, 'none')
            self.assertIs(self.shows(sheet, ('none', least), end), True)
            marked = [(one, spot, (1 if one[1] == (1,) else 0,)) for one, spot in least]
            for other in ('always', 'never'):
                self.assertIs(self.shows(sheet, (other, tuple(sorted(marked))), end), True)
                self.assertIs(self.shows(sheet, (other, tuple(sorted(marked))[1:]), end), False)
                self.assertIs(self.shows(sheet, (other, least), end), False)
            self.assertIs(self.shows(sheet, ('none', tuple(sorted(marked))), end), False)
            self.assertIs(self.shows(sheet, ('sometimes', (do(0, 1),), (do(0, 0),)), end), False)
            for k in range(len(least)):
                self.assertIs(self.shows(sheet, ('none', least[:k] + least[k + 1:]), end), False)
        self.assertIs(self.shows(((GO,),), ('none', cover(self.made, ((GO,),)))), False)

    def test_any_value(self):
        for sheet in (((GO,),), ((HOT,),), ((GO, HOT),)):
            for value in ODD:
                for told in (value, (value,), (value, value), (value,) * 3, ('none', value), ('always', value), ('never', value),
                             ('sometimes', value, value), ('always', (value,)), ('never', ((value,) * 3,))):
                    self.assertIs(self.shows(sheet, told), False)


class TestWrongValues(Case):
    def test_in_sequence(self):
        made = maker(TINY)
        question = ('did', 'a', 1)
        for value in BAD_SHEETS:
            self.told(BadSheet, value, answer, made, value, None, end=1)
            self.told(BadSheet, value, shows_answer, made, value, None, (), end=1)
        for value in (*ODD, ('did', 'z', 1), ('did', 'a', 4)):
            self.told(BadQuestion, value, answer, made, ALL, value, end=1)
            self.told(BadQuestion, value, shows_answer, made, ALL, value, None)
        for value in BAD_ENDS:
            self.told(BadEnd, value, answer, made, ALL, question, end=value)
            self.told(BadEnd, value, shows_answer, made, ALL, question, ('none', ()), end=value)
        good = {'maker': made, 'sheet': ((HOT,),), 'question': question, 'end': 'over'}
        wrong = [('sheet', ((0,),), BadSheet), ('question', ('not', question, question), BadQuestion), ('end', [], BadEnd)]
        self.told_in_sequence(answer, good, wrong)
        self.told_in_sequence(shows_answer, {**good, 'value': 1}, wrong)

    def test_nothing_is_changed(self):
        made = maker(GATE)
        for question in (('asked', 'a', 0), ('did', 'd', 1)):
            told = self.unchanged(answer, made, ((DONE,),), question)
            self.unchanged(shows_answer, made, ((DONE,),), question, told)


if __name__ == '__main__':
    unittest.main()
