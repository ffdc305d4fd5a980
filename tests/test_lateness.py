import random
import unittest

from loggedruns.errors import BadQuestion, BadSheet, NoRuns, TooMany
from loggedruns.lateness import late, shows_late
from loggedruns.makers import Maker, Recorder
from loggedruns.settling import settled
from loggedruns.sheets import fits
from loggedruns.stands import led
from tests import generate, plain, plainlate
from tests.common import GATE, ODD, TINY, Case, do, maker
from tests.test_covers import BAD_SHEETS

GO, HOT, U = ('h', 'go', ()), ('h', 'hot', ()), ('h', 'u', ())
ASKED = ('asked', 'a', 1)
TOLD = ('did', 'did', 'asked', 'asked', 'ahead', 'was', 'fell', 'spilt')
SOON = 'cell x 1\nhand h\n  a: ask x\n  log 1 u x'
EVER = 'cell x 1\nhand h\n  a: ask x\n  while x = x\n    log 1 u'
QUIET = 'cell x 1\nhand h\n  a: ask x\n  while x > 0\n    b: set x 1\n  log 1 u'


class TestExample(Case):
    def test_tiny(self):
        tiny = maker(TINY)
        deaf, question = Maker(tiny.program, Recorder(every=2)), ASKED
        self.same([late(tiny, question)[:2], settled(tiny, question)[0], late(deaf, question)[0], settled(deaf, question)[0]],
                  [('held', 2), 'settled', 'silent', 'open'])


class LateCase(Case):
    def late(self, made, question, sheet=None):
        """The word, and the number of held; all that shows it is looked at."""
        told = late(made, question, sheet=sheet)
        self.assertIs(shows_late(maker=made, question=question, value=told, sheet=sheet), True)
        nodes = plainlate.Nodes(made, question)
        starts = self.starts(nodes, sheet)
        if told[0] == 'held':
            self.same(len(told), 4)
            self.assertTrue(nodes.is_late_table(told[1], told[2], starts))
            self.assertIs(told[3] is None, told[1] == 0)
            if told[1]:
                one, other, begins = self.split(nodes, told[3][0], told[3][1], sheet)
                self.assertTrue(nodes.is_late_pair(told[1] - 1, one, other, begins))
            return told[:2]
        one, other, begins = self.split(nodes, told[1], told[3], sheet)
        if told[0] == 'silent':
            self.same(len(told), 4)
            self.assertTrue(nodes.is_silent(one, told[2], other, begins))
        else:
            self.same([told[0], len(told)], ['ever', 5])
            self.assertTrue(nodes.is_ever(one, told[2], other, told[4], begins))
        return told[0]

    def starts(self, nodes, sheet):
        """The nodes at which runs go on, as far as they are met."""
        if sheet is None:
            return [plainlate.first(nodes.made, nodes.question)]
        found, queue = set(), [((), plainlate.first(nodes.made, nodes.question), [])]
        seen = set()
        while queue:
            run, node, got = queue.pop()
            spots = plain.spots(sheet, got)
            key = (node, tuple(sorted(spots)))
            if key in seen or not spots:
                continue
            seen.add(key)
            if tuple((len(copy), 0) for copy in sheet) in spots:
                found.add(node)
            queue.extend([((*run, step), target, [*got, entry]) for step, entry, target in nodes.moves(node)])
        return sorted(found)

    def split(self, nodes, one, other, sheet):
        """The further steps of two runs that go on, and the nodes at which they do."""
        if sheet is None:
            return one, other, (None, None)
        for ahead, further in (one, other):
            self.assertIs(fits(nodes.made, sheet, ahead), True)
            self.assertIsInstance(further, tuple)
        return one[1], other[1], (nodes.trail(one[0])[0][-1], nodes.trail(other[0])[0][-1])


class TestLate(LateCase):
    def test_true_at_first_and_never(self):
        for text in (TINY, SOON, EVER, QUIET, GATE):
            made = maker(text)
            for question in (('was', 'x', 0), ('fell', 1), ('or', ('fell', 1), ('was', 'x', 0))):
                self.same(self.late(made, question), ('held', 0))
                self.assertIsNone(late(made, question)[3])

    def test_told_at_once(self):
        """By the step by which it becomes true the log gets what no other one gets."""
        made = maker('cell x 1\nhand h\n  ask x\n  if x > 0\n    a: log 1 u\n  else\n    b: log 1 v\n  log 1 w')
        self.same(self.late(made, ('did', 'a', 1)), ('held', 0))
        self.same(self.late(made, ('or', ('did', 'a', 1), ('did', 'b', 1))), ('held', 0))
        # In a box it is not written at once.
        made = maker('cell x 1\nbox 1\nhand h\n  ask x\n  if x > 0\n    a: log 1 u\n  else\n    b: log 1 v')
        self.same(self.late(made, ('did', 'a', 1)), ('held', 1))

    def test_told_by_the_next_entries(self):
        self.same(self.late(maker(SOON), ASKED), ('held', 1))
        self.same(self.late(maker(TINY), ASKED), ('held', 2))
        for many in range(5):
            made = maker('cell x 1\nhand h\n  a: ask x\n' + '  log 1 u\n' * many + '  log 1 v x')
            self.same(self.late(made, ASKED), ('held', many + 1))
            made = maker('cell x 1\nhand h\n  a: ask x\n' + '  log 1 u\n' * many + '  log 2 v x', level=2)
            self.same(self.late(made, ASKED), ('held', 1))

    def test_the_entry_of_the_step_itself_is_not_counted(self):
        made = maker('cell x 1\nhand h\n  ask x\n  if x > 0\n    a: log 1 u\n  else\n    log 1 u\n  log 1 v x')
        self.same(self.late(made, ('did', 'a', 1)), ('held', 1))
        made = maker('cell x 1\nhand h\n  ask x\n  if x > 0\n    a: set x 1\n  log 1 u\n  log 1 v x')
        self.same(self.late(made, ('did', 'a', 1)), ('held', 2))

    def test_told_only_at_the_end(self):
        made = maker('cell x 1\nhand h\n  a: ask x\n  log 1 u\n  if x = 0\n    log 1 v')
        self.same(self.late(made, ASKED), ('held', 2))
        self.same(self.late(made, ('asked', 'a', 0)), ('held', 2))
        # That a run is over is seen: then the other value was given.
        made = maker('cell x 1\nhand h\n  a: ask x\n  while x = 0\n    b: log 1 v\n    set x 1\n  stop')
        self.same(self.late(made, ASKED), ('held', 1))

    def test_told_by_nothing(self):
        self.same(self.late(maker('cell x 1\nhand h\n  a: ask x\n  log 1 u'), ASKED), 'silent')
        self.same(self.late(maker('cell x 1\nhand h\n  a: ask x'), ASKED), 'silent')
        self.same(self.late(maker(SOON, every=2), ASKED), ('held', 1))
        self.same(self.late(maker(TINY, every=2), ASKED), 'silent')
        self.same(self.late(maker(TINY, level=2), ASKED), 'silent')
        self.same(self.late(maker(SOON + '\n  log 1 v', every=2), ASKED), ('held', 1))
        self.same(self.late(maker('cell x 1\nhand h\n  a: ask x\n  log 1 v\n  log 1 u x', every=2), ASKED), 'silent')

    def test_silent_runs(self):
        made = maker('cell x 1\nhand h\n  a: ask x\n  log 1 u')
        self.same(late(made, ASKED), ('silent', (do(0, 1), do(0)), 2, (do(0, 0), do(0))))

    def test_told_after_any_number_of_entries(self):
        self.same(self.late(maker(EVER), ASKED), 'ever')
        made = maker('cell x 1\ncell y 1\nhand h\n  a: ask x\n  while y = 0\n    log 1 u\n    ask y\n  log 1 v x')
        self.same(self.late(made, ASKED), 'ever')
        # Where it is told in each round, it is told by the next one.
        made = maker('cell x 1\ncell y 1\nhand h\n  a: ask x\n  while y = 0\n    log 1 u\n    log 1 v x')
        self.same(self.late(made, ASKED), ('held', 2))
        # A ring of two entries; rounds of the two runs of unlike lengths.
        made = maker('cell x 1\nhand h\n  a: ask x\n  while x = x\n    log 1 u\n    log 1 v')
        self.same(self.late(made, ASKED), 'ever')
        made = maker('cell x 1\nhand h\n  a: ask x\n  if x > 0\n    while x = x\n      log 1 u\n  else\n    while x = x\n'
                     '      log 1 u\n      log 1 u')
        self.same(self.late(made, ASKED), 'ever')
        self.same(self.late(made, ('asked', 'a', 0)), 'ever')

    def test_quiet_rounds(self):
        # The one that goes round has the question true, the other one waits, for an entry that may come.
        self.same(self.late(maker(QUIET), ASKED), 'silent')
        word, one, first, other = late(maker(QUIET), ASKED)
        self.same([one[first:] != (), led(maker(QUIET), one[:first]) == led(maker(QUIET), one)], [True, True])
        # Of both runs.
        made = maker('cell x 1\nhand h\n  a: ask x\n  while x = x\n    flush')
        self.same(self.late(made, ASKED), 'silent')
        # Of the other one alone: the one goes on, and is told by its next entry, or by its end.
        made = maker('cell x 1\nhand h\n  a: ask x\n  while x = 0\n    flush\n  log 1 u')
        self.same(self.late(made, ASKED), ('held', 1))
        made = maker('cell x 1\nhand h\n  a: ask x\n  while x = 0\n    flush')
        self.same(self.late(made, ASKED), ('held', 1))
        # Of the one, while the other one is over: it is seen that the one is not.
        made = maker('cell x 1\nhand h\n  log 1 u\n  a: ask x\n  while x > 0\n    flush')
        self.same(self.late(made, ASKED), 'silent')
        made = maker('cell x 1\nhand h\n  ask x\n  log 1 u x\n  if x > 0\n    a: log 1 v\n    while x = x\n      flush\n  else\n'
                     '    log 1 v')
        self.same(self.late(made, ('did', 'a', 1)), ('held', 0))

    def test_a_quiet_round_has_the_same_memory(self):
        """Counting goes on while the stand is the same again: only then it is a round."""
        made = maker('cell x 1\nhand h\n  while x = 0\n    a: flush')
        self.same(self.late(made, ('did', 'a', 1)), 'silent')
        self.same(self.late(made, ('did', 'a', 3)), 'silent')
        made = maker('cell x 1\nhand h\n  while x = 0\n    a: log 1 u')
        self.same([self.late(made, ('did', 'a', n)) for n in (1, 2, 3)], [('held', 0)] * 3)

    def test_dropped_and_spilt(self):
        made = maker('cell x 1\nbox 1\nhand h\n  a: ask x\n  log 1 u\n  if x = 1\n    b: fail w\n  log 1 v')
        # It spills what was told, or it is written: then the next one is not.
        self.same(self.late(made, ('fell', 1)), ('held', 1))
        self.same(self.late(made, ('spilt', 'u', 1)), ('held', 1))
        made = maker('cell x 1\nbox 1\nhand h\n  a: ask x\n  log 1 u\n  b: fail w')
        self.same(self.late(made, ('spilt', 'u', 1)), ('held', 1))
        self.same(self.late(made, ASKED), 'silent')
        made = maker('cell x 1\nbox 1\nagain 1\nhand h\n  log 1 u\n  a: ask x\n  if x = 1\n    b: fail w\n  log 1 v')
        self.same(self.late(made, ('fell', 1)), 'silent')
        for every, expected in ((0, ('held', 2)), (2, ('held', 3)), (3, ('held', 2)), (4, ('held', 2))):
            made = maker('cell x 1\nhand h\n  a: ask x\n  log 1 u\n  log 1 v x\n  log 1 w\n  log 1 x x\n  log 1 y x', every=every)
            self.same(self.late(made, ASKED), expected)

    def test_two_hands(self):
        made = maker('cell x 1\nlock l\nhand one\n  start two\n  a: take l\n  log 1 u\n  give l\nhand two\n  b: take l\n  log 1 u\n'
                     '  give l')
        self.same(self.late(made, ('ahead', 'a', 'b')), ('held', 1))
        self.same(self.late(Maker(made.program, Recorder(names=False)), ('ahead', 'a', 'b')), 'silent')

    def test_joined_questions(self):
        made = maker('cell x 1\nhand h\n  a: ask x\n  log 1 u x\n  b: ask x\n  log 1 v\n  log 1 w x')
        one, other = ASKED, ('asked', 'b', 1)
        self.same(self.late(made, one), ('held', 1))
        self.same(self.late(made, other), ('held', 2))
        self.same(self.late(made, ('and', one, other)), ('held', 2))
        self.same(self.late(made, ('or', one, other)), ('held', 2))
        self.same(self.late(made, ('and', one, ('did', 'a', 1))), ('held', 1))

    def test_limit(self):
        made = maker('cell x 3\ncell y 3\nhand h\n  a: ask x\n  ask y\n  ask x\n  ask y\n  ask x')
        for question in (('asked', 'a', 1), ('was', 'x', 0), ('fell', 1)):
            self.told(TooMany, 4000, late, made, question)
        self.told_in_sequence(late, {'maker': made, 'question': ('fell', 1), 'sheet': ((None,),)},
                              [('question', ('is', 'x', 0), BadQuestion), ('sheet', (), BadSheet)])
        self.told(NoRuns, None, late, made, ('fell', 1), sheet=((1,),))
        self.told(TooMany, 4000, late, made, ('fell', 1), sheet=((),))
        # Also where two runs part at once; what looks at them does not raise it.
        self.assertIs(shows_late(made, ASKED, ('held', 0, (), None)), False)
        ahead = (do(0, 1), do(0, 0), do(0, 0), do(0, 0), do(0, 0))
        self.assertIs(shows_late(made, ASKED, ('silent', ahead, 5, (do(0, 0), *ahead[1:]))), True)
        self.assertIs(shows_late(made, ASKED, ('silent', ((), ahead), 5, ((), (do(0, 0), *ahead[1:]))), sheet=((),)), True)

    def test_just_the_limit(self):
        """With k stands that a run without entries can have, there are k times k members."""
        # The first stand, and so many more behind each ask.
        for text, many in (('cell x 3\nhand h\n' + '  ask x\n' * 15 + '  set x 0\n  flush', 1 + 15 * 4 + 2),):
            made = maker(text)
            table = late(made, ('fell', 1))[2]
            self.same(len(table), many * many)
            self.assertLessEqual(len(table), 4000)
        made = maker('cell x 3\nhand h\n' + '  ask x\n' * 15 + '  set x 0\n  flush\n  flush')
        self.told(TooMany, 4000, late, made, ('fell', 1))

    def test_greater_than_the_limit(self):
        """Only the least table without ages counts."""
        made = maker('cell x 1\ncell y 1\ncell z 3\nhand h\n  ask y\n  if y = 0\n    a: ask x\n' + '    log 1 u\n' * 8
                     + '    log 1 v x\n  else\n    while y = 1\n      log 1 w\n      b: ask x\n      log 1 v x' + '\n      ask z' * 3)
        question = ('or', ASKED, ('asked', 'b', 1))
        word, most, table, _ = late(made, question)
        self.same([word, most], ['held', 9])
        self.assertGreater(len(table), 4000)
        self.assertIs(shows_late(made, question, (word, most, table, None)), True)
        self.assertIs(shows_late(made, question, (word, most, table[:-1], None)), False)

    def test_random(self):
        found = {}
        for rng, made, runs in generate.makers(27, 500, 80, generate.talker):
            question = generate.question(rng, made.program, TOLD)
            if len(plain.facts(question)) > 4:
                continue
            try:
                told = self.late(made, question)
            except TooMany:
                continue
            plainly = plainlate.lateness(made, question, runs)
            self.same(told, plainly if plainly[0] == 'held' else 'silent')
            found[plainly] = found.get(plainly, 0) + 1
        self.assertGreater(found[('silent',)], 3)
        self.assertGreater(found[('held', 1)], 20)
        self.assertGreater(found[('held', 2)], 2)

    def test_random_loops(self):
        rng = random.Random(28)
        found = {}
        for _ in range(250):
            made = generate.talker(rng, True)
            question = generate.fact(rng, made.program, TOLD)
            try:
                told = late(made, question)
            except TooMany:
                continue
            if told[0] != 'held' or len(told[2]) < 300:
                word = self.late(made, question)
                found[word] = found.get(word, 0) + 1
        self.assertGreater(min(found['ever'], found['silent'], found['held', 0], found['held', 1]), 5)


class TestSheets(LateCase):
    def test_further_steps(self):
        made = maker(TINY)
        self.same(self.late(made, ASKED, ((),)), ('held', 2))
        # Behind go it is told by the next entry, or by the end.
        self.same(self.late(made, ASKED, ((GO,),)), ('held', 1))
        self.same(self.late(made, ASKED, ((GO, HOT),)), ('held', 0))
        self.same(self.late(made, ('did', 'b', 1), ((GO,),)), ('held', 0))

    def test_what_was_ahead_is_not_alike(self):
        # Two runs that had unlike logs go on alike: neither is told any more.
        made = maker(SOON)
        for sheet in (((None,),), ((1,),), ((('h', 'u', (None,)),),)):
            self.same(self.late(made, ASKED, sheet), 'silent')
        self.same(self.late(made, ASKED, ((('h', 'u', (1,)),),)), ('held', 0))
        self.same(self.late(made, ASKED, ((('h', 'u', (0,)),),)), ('held', 0))
        self.same(self.late(made, ASKED, ((),)), ('held', 1))
        made = maker('cell x 1\nhand h\n  a: ask x\n  log 1 u x\n  log 1 v\n  log 1 w x')
        self.same(self.late(made, ASKED, ((1,),)), ('held', 2))
        self.same(self.late(made, ASKED, ((2,),)), ('held', 1))
        self.same(self.late(made, ASKED, ((3,),)), 'silent')

    def test_only_further_entries_count(self):
        for many in range(4):
            made = maker('cell x 1\nhand h\n  a: ask x\n' + '  log 1 u\n' * 4 + '  log 1 v x')
            self.same(self.late(made, ASKED, ((U,) * many,)), ('held', 5 - many))

    def test_ends_in_several_stands(self):
        made = maker('cell x 1\ncell y 1\nhand h\n  log 1 u\n  a: ask x\n  b: ask y\n  log 1 v x')
        sheet = ((U,),)
        word, most, table, pair = late(made, ASKED, sheet=sheet)
        self.same([word, most], ['held', 1])
        # Behind u: nothing is asked, a is, b is; each with each.
        ends = self.starts(plainlate.Nodes(made, ASKED), sheet)
        self.same(len(ends), 1 + 2 + 4)
        self.assertTrue(all((*one, *other, 0) in table for one in ends for other in ends))
        self.same(self.late(made, ASKED, sheet), ('held', 1))

    def test_endless(self):
        self.same(self.late(maker(EVER), ASKED, ((U, U),)), 'ever')
        self.same(self.late(maker(EVER), ASKED, ((None,),)), 'ever')
        self.same(self.late(maker(QUIET), ASKED, ((),)), 'silent')
        self.same(self.late(maker(QUIET), ASKED, ((U,),)), ('held', 0))
        self.same(late(maker(QUIET), ('asked', 'a', 0), sheet=((U,),))[:2], ('held', 0))

    def test_true_at_the_beginning(self):
        """From the beginning of the further steps on, if it is true by then."""
        made = maker('cell x 1\nhand h\n  a: ask x\n  log 1 u\n  log 1 v\n  log 1 w x')
        word, most, table, pair = late(made, ASKED, sheet=((U,),))
        self.same([word, most], ['held', 2])
        (ahead, further), (beside, other) = pair
        self.same([fits(made, ((U,),), ahead), fits(made, ((U,),), beside)], [True, True])
        self.same(ahead[0], do(0, 1))
        self.same(len(further), 1)

    def test_sheets_that_tell_the_same(self):
        made = maker('cell x 1\nhand h\n  a: ask x\n  log 1 u\n  log 1 v\n  log 1 w x')
        for sheet in (((U,),), ((None, U),), ((U,), (None, None)), ((None,) * 3, (1,)), ((None, U, None), (1,))):
            told = late(made, ASKED, sheet=sheet)
            self.same(self.late(made, ASKED, sheet), ('held', 2))
            self.same(told[2], late(made, ASKED, sheet=((U,),))[2])

    def test_no_runs(self):
        made = maker(TINY)
        for sheet in (((HOT,),), ((3,),), ((GO, GO),), ((None,), (HOT, None))):
            self.told(NoRuns, None, late, made, ASKED, sheet=sheet)
            self.told(NoRuns, None, shows_late, made, ASKED, ('held', 0, (), None), sheet=sheet)
            self.told(NoRuns, None, shows_late, made, ASKED, None, sheet=sheet)

    def test_random(self):
        found = {}
        for rng, made, runs in generate.makers(29, 400, 50, generate.talker):
            question = generate.fact(rng, made.program, TOLD)
            sheet = generate.sheet(rng, [entry for entry in rng.choice(runs)[2] if entry is not None])
            fitted = [run for run, _ in plain.fitted(made, runs, sheet, None)]
            if not fitted:
                self.told(NoRuns, None, late, made, question, sheet=sheet)
                continue
            plainly = plainlate.lateness(made, question, runs, fitted)
            self.same(self.late(made, question, sheet), plainly if plainly[0] == 'held' else 'silent')
            found[plainly] = found.get(plainly, 0) + 1
        self.assertGreater(found[('silent',)], 3)
        self.assertGreater(found[('held', 1)], 3)


class TestShows(LateCase):
    def test_numbers_that_hold(self):
        made = maker(TINY)
        nodes = plainlate.Nodes(made, ASKED)
        word, most, table, pair = late(made, ASKED)
        self.same(most, 2)
        for other in (-1, 0, 1, 2, 3, 4, 9, True, None, '2', (2,)):
            # No log gets more than two entries, so that the table is one for greater numbers, too.
            self.assertIs(shows_late(made, ASKED, ('held', other, table, None)), other in (2, 3, 4, 9))
            self.assertIs(shows_late(made, ASKED, ('held', other, table, pair)), other == 2)
        # With a greater number stands None, as no pair is so late.
        for more in (3, 4, 7):
            found = self.table_for(nodes, more)
            self.assertTrue(nodes.is_late_table(more, found, [plainlate.first(made, ASKED)]))
            self.assertIs(shows_late(made, ASKED, ('held', more, found, None)), True)
            self.assertIs(shows_late(made, ASKED, ('held', more, found, pair)), False)
        for less in (0, 1):
            found = self.table_for(nodes, less)
            self.assertIs(shows_late(made, ASKED, ('held', less, found, None)), False)

    def table_for(self, nodes, most, starts=None):
        """The least late table for a number."""
        starts = starts or [plainlate.first(nodes.made, nodes.question)]
        queue = [(one, other, 0) for one in starts for other in starts]
        found = set(queue)
        while queue:
            one, other, age = queue.pop()
            for both, there, beside in nodes.pairs(one, other):
                target = (there, beside, min(age + 1, most) if both and nodes.is_true(one) else age)
                if target not in found:
                    found.add(target)
                    queue.append(target)
        return tuple(sorted([(*one, *other, age) for one, other, age in found]))

    def test_the_least_table(self):
        for text, question in ((TINY, ASKED), (SOON, ASKED), (GATE, ('was', 'x', 0)), (EVER, ('fell', 1))):
            made = maker(text)
            _, most, table, _ = late(made, question)
            self.same(table, self.table_for(plainlate.Nodes(made, question), most))

    def test_tables_otherwise(self):
        made = maker(SOON)
        word, most, table, pair = late(made, ASKED)
        nodes = plainlate.Nodes(made, ASKED)
        starts = [plainlate.first(made, ASKED)]
        for k, member in enumerate(table):
            one, memory, other, marks, age = member
            for less in (-1, 1):
                changed = (*table[:k], (*member[:4], age + less), *table[k + 1:])
                self.assertIs(shows_late(made, ASKED, (word, most, changed, pair)), False)
                more = tuple(sorted({*table, (*member[:4], age + less)}))
                self.assertIs(shows_late(made, ASKED, (word, most, more, pair)), nodes.is_late_table(most, more, starts))
            bad = [(), (member,) * 2, (list(member),), (member[:4],), ((*member, 0),), ((one, list(memory), other, marks, age),),
                   ((one, (2,), other, marks, age),), ((one, (), other, marks, age),), ((memory, one, other, marks, age),),
                   ((one, memory, other, (-1,), age),), ((one, memory, other, marks, bool(age)),), (None,),
                   ((one, memory, other, marks, None),), ((one, (bool(memory[0]),), other, marks, age),),
                   ((one, memory, (*other[:6], 0), marks, age),), ((one, memory, None, marks, age),),
                   ((one, memory, other, marks[0], age),)]
            for more in bad:
                self.assertIs(shows_late(made, ASKED, (word, most, (*table[:k], *more, *table[k + 1:]), pair)), False)
            for swap in range(k):
                swapped = list(table)
                swapped[k], swapped[swap] = swapped[swap], swapped[k]
                self.assertIs(shows_late(made, ASKED, (word, most, tuple(swapped), pair)), False)
        for value in (list(table), (), None, (table,)):
            self.assertIs(shows_late(made, ASKED, (word, most, value, pair)), False)

    def test_greater_tables(self):
        """With members that no run comes to; they have to do, too."""
        made = maker(SOON)
        word, most, table, pair = late(made, ASKED)
        last, other = [(((),), (x,), (), ((),), 0, 0, False) for x in (0, 1)]
        for age in range(-1, 4):
            for one, mark in ((last, 0), (last, 1), (other, 0), (other, 1)):
                for two, marks in ((last, 0), (last, 1), (other, 0), (other, 1)):
                    member = (one, (mark,), two, (marks,), age)
                    fine = 0 <= age <= most and not (mark == 1 and marks == 0)
                    told = shows_late(made, ASKED, (word, most, tuple(sorted({*table, member})), pair))
                    self.assertIs(told, fine)

    def test_greater_tables_with_quiet_rounds(self):
        made = maker(QUIET + '\n  c: log 1 v')
        question = ('did', 'c', 2)
        word, most, table, pair = late(made, question)
        self.same([word, most, pair], ['held', 0, None])
        # None of them is true of a first one: what holds 0 holds 1, too; so does a round of one that is not true.
        nodes = plainlate.Nodes(made, question)
        starts = [plainlate.first(made, question)]
        for one, other, fine in (((3, 1, 2), (2, 0, 0), False), ((3, 1, 1), (2, 0, 0), True), ((3, 1, 2), (2, 0, 2), True),
                                 ((3, 0, 2), (0, 0, 0), True), ((3, 1, 2), (0, 0, 0), True), ((5, 0, 2), (5, 0, 1), True)):
            stands = [((((line,) if line else (),), (x,), (), ((),), 0, 0, False), (mark,)) for line, x, mark in (one, other)]
            queue, found = [(*stands, 0)], set()
            while queue:
                first, second, age = queue.pop()
                if (first, second, age) not in found:
                    found.add((first, second, age))
                    for both, there, beside in nodes.pairs(first, second):
                        queue.append((there, beside, min(age + 1, 3) if both and nodes.is_true(first) else age))
            whole = tuple(sorted({*self.table_for(nodes, 3), *[(*first, *second, age) for first, second, age in found]}))
            self.assertIs(nodes.is_late_table(3, whole, starts), fine, (one, other))
            self.assertIs(shows_late(made, question, ('held', 3, whole, None)), fine)

    def test_pairs(self):
        made = maker(TINY)
        word, most, table, pair = late(made, ASKED)
        nodes = plainlate.Nodes(made, ASKED)
        self.same(most, 2)
        runs = [(do(0, x), *[do(0)] * many) for x in (0, 1) for many in range(4)] + [(), (do(0, 1), *[do(0)] * 4)]
        shown = 0
        for one in runs:
            for other in runs:
                fine = nodes.is_late_pair(1, one, other)
                shown += fine
                self.assertIs(shows_late(made, ASKED, (word, most, table, (one, other))), fine)
                self.assertIs(shows_late(made, ASKED, (word, 3, self.table_for(nodes, 3), (one, other))), False)
        self.same(shown, 2 * 3)
        for value in (*ODD, list(pair), (*pair, ()), pair[:1], pair[::-1], (list(pair[0]), pair[1]), (pair[0], None),
                      ((None,), pair[1]), (pair[0], (do(0, 2), do(0))), ((do(0, True), do(0)), pair[1])):
            if value is not None:
                self.assertIs(shows_late(made, ASKED, (word, most, table, value)), False)
        # With 0 there is no pair.
        question = ('was', 'x', 0)
        word, most, table, pair = late(made, question)
        self.same([most, pair], [0, None])
        for value in (((), ()), (), False, 0, (runs[0], runs[0])):
            self.assertIs(shows_late(made, question, (word, 0, table, value)), False)

    def test_silent(self):
        made = maker('cell x 1\nhand h\n  a: ask x\n  log 1 u\n  flush')
        nodes = plainlate.Nodes(made, ASKED)
        runs = [(do(0, x), *[do(0)] * many) for x in (0, 1) for many in range(3)] + [()]
        shown = 0
        for one in runs:
            for other in runs:
                for first in range(-1, 5):
                    fine = 0 <= first <= len(one) and nodes.is_silent(one, first, other)
                    shown += fine
                    self.assertIs(shows_late(made, ASKED, ('silent', one, first, other)), fine)
        self.same(shown, 1)
        one, other = (do(0, 1), do(0), do(0)), (do(0, 0), do(0), do(0))
        for value in (['silent', one, 3, other], ('silent', one, 3), ('silent', one, 3, other, 3), ('held', one, 3, other),
                      ('silent', list(one), 3, other), ('silent', one, 3, list(other)), ('silent', one, True, other),
                      ('silent', one, None, other), ('silent', one, '3', other), ('silent', one, (3,), other),
                      ('silent', None, 3, other), ('silent', one, 3, None), ('silent', (one,), 3, (other,)),
                      ('silent', ((), one), 3, ((), other)), ('Silent', one, 3, other), (None, one, 3, other)):
            self.assertIs(shows_late(made, ASKED, value), False)
        self.assertIs(shows_late(made, ASKED, ('silent', one, 3, other)), True)

    def test_silent_with_quiet_rounds(self):
        made = maker(QUIET)
        nodes = plainlate.Nodes(made, ASKED)
        going = [(do(0, 1), *[do(0)] * many) for many in range(6)]
        others = [(), (do(0, 0),), (do(0, 0), do(0)), (do(0, 0), do(0), do(0)), (do(0, 1),), (do(0, 1), do(0), do(0))]
        shown = 0
        for one in (*going, *others):
            for other in others:
                for first in range(-1, 7):
                    fine = 0 <= first <= len(one) and nodes.is_silent(one, first, other)
                    shown += fine
                    self.assertIs(shows_late(made, ASKED, ('silent', one, first, other)), fine)
        self.assertGreater(shown, 8)
        for many, first, fine in ((2, 1, True), (3, 2, True), (3, 1, False), (4, 2, False), (4, 1, True), (2, 2, False)):
            self.assertIs(shows_late(made, ASKED, ('silent', going[many], first, ())), fine)

    def test_silent_with_entries_in_the_round(self):
        made = maker(EVER)
        nodes = plainlate.Nodes(made, ASKED)
        one, other = (do(0, 1), do(0), do(0)), (do(0, 0), do(0), do(0))
        self.same([nodes.trail(one)[0][1] == nodes.trail(one)[0][3], nodes.is_silent(one, 1, other)], [True, False])
        for first in range(4):
            self.assertIs(shows_late(made, ASKED, ('silent', one, first, other)), False)

    def test_silent_beside_a_run_that_is_over(self):
        made = maker('cell x 1\nhand h\n  a: ask x\n  while x > 0\n    set x 1\n  c: flush')
        one, other = (do(0, 1), do(0), do(0)), (do(0, 0), do(0))
        self.assertIs(shows_late(made, ASKED, ('silent', one, 1, other)), True)
        self.assertIs(shows_late(made, ASKED, ('silent', one, 1, (*other, do(0)))), False)
        self.same(self.late(made, ('and', ASKED, ('did', 'a', 1))), 'silent')

    def test_ever_behind_the_last_entry(self):
        """A number of steps is none from the end: -1 is no number of steps."""
        made = maker(EVER)
        nodes = plainlate.Nodes(made, ASKED)
        runs = [(do(0, x), *[do(0)] * many) for x in (0, 1) for many in range(6)]
        shown = 0
        for one in runs:
            for other in runs:
                for first in range(-3, 7):
                    for start in range(-3, 7):
                        inside = 0 <= first <= len(one) and 0 <= start <= len(other)
                        fine = inside and nodes.is_ever(one, first, other, start)
                        shown += fine
                        self.assertIs(shows_late(made, ASKED, ('ever', one, first, other, start)), fine)
        self.assertGreater(shown, 5)

    def test_the_first_entry_counts_for_the_sheet(self):
        made = maker('cell x 1\nhand h\n  log 1 u\n  a: ask x\n  log 1 v')
        one, other = [((do(0), do(0, x)), (do(0),)) for x in (1, 0)]
        self.assertIs(shows_late(made, ASKED, ('silent', one, 1, other), sheet=((U,),)), True)
        self.assertIs(shows_late(made, ASKED, ('silent', one, 1, other), sheet=((None,),)), True)
        for sheet in (((),), ((2,),), ((('h', 'v', ()),),)):
            if sheet != ((('h', 'v', ()),),):
                self.assertIs(shows_late(made, ASKED, ('silent', one, 1, other), sheet=sheet), False)
            else:
                self.told(NoRuns, None, shows_late, made, ASKED, ('silent', one, 1, other), sheet=sheet)

    def test_ever(self):
        made = maker('cell x 1\nhand h\n  a: ask x\n  while x = x\n    log 1 u\n    log 1 v')
        nodes = plainlate.Nodes(made, ASKED)
        runs = [(do(0, x), *[do(0)] * many) for x in (0, 1) for many in range(8)]
        shown = 0
        for one in runs:
            for other in runs[::3] + runs[1::3]:
                for first in range(-1, 9):
                    for start in range(-1, 9):
                        inside = 0 <= first <= len(one) and 0 <= start <= len(other)
                        fine = inside and nodes.is_ever(one, first, other, start)
                        shown += fine
                        self.assertIs(shows_late(made, ASKED, ('ever', one, first, other, start)), fine)
        self.assertGreater(shown, 10)
        word, one, first, other, start = late(made, ASKED)
        for value in ([word, one, first, other, start], (word, one, first, other), (word, one, first, other, start, start),
                      (word, list(one), first, other, start), (word, one, first, list(other), start), (word, one, None, other, start),
                      (word, one, first, other, None), (word, one, True, other, True), (word, one, str(first), other, start),
                      (word, None, first, other, start), (word, one, first, None, start), ('silent', one, first, other, start),
                      (word, other, start, one, first), (word, ((), one), first, ((), other), start), (True, one, first, other, start),
                      (word, one, first + 1, other, start), (word, one, first, other, start + 1)):
            self.assertIs(shows_late(made, ASKED, value), False)

    def test_rings_of_the_same_memory(self):
        """The stand is the same again; that the memory is, too, is needed."""
        made = maker('cell x 1\nhand h\n  ask x\n  while x = x\n    if x > 0\n      a: log 1 u\n    else\n      log 1 u')
        question = ('did', 'a', 2)
        one, other = (do(0, 1), *[do(0)] * 9), (do(0, 0), *[do(0)] * 9)
        nodes = plainlate.Nodes(made, question)
        for first in range(11):
            for start in range(11):
                self.assertIs(shows_late(made, question, ('ever', one, first, other, start)),
                              nodes.is_ever(one, first, other, start))
        self.same(self.late(made, question), 'ever')
        self.assertIs(shows_late(made, ('or', question, ('did', 'a', 3)), ('ever', one, 7, other, 7)), False)
        self.assertIs(shows_late(made, question, ('ever', one, 7, other, 7)), True)

    def test_with_a_sheet(self):
        made = maker('cell x 1\nhand h\n  a: ask x\n  log 1 u\n  log 1 v\n  log 1 w x')
        sheet = ((U,),)
        told = word, most, table, pair = late(made, ASKED, sheet=sheet)
        self.same([word, most], ['held', 2])
        nodes = plainlate.Nodes(made, ASKED)
        starts = self.starts(nodes, sheet)
        for k in range(len(table)):
            self.assertIs(shows_late(made, ASKED, (word, most, table[:k] + table[k + 1:], pair), sheet=sheet), False)
        self.same(table, self.table_for(nodes, 2, starts))
        self.assertIs(shows_late(made, ASKED, (word, 3, self.table_for(nodes, 3, starts), None), sheet=sheet), True)
        self.assertIs(shows_late(made, ASKED, told), False)
        self.assertIs(shows_late(made, ASKED, late(made, ASKED), sheet=sheet), False)
        ahead, beside = (do(0, 1), do(0)), (do(0, 0), do(0))
        for value, fine in (
                (((ahead, (do(0),)), (beside, (do(0),))), True), (((ahead, ()), (beside, ())), False),
                (((beside, (do(0),)), (ahead, (do(0),))), False), (((ahead, (do(0),)), (beside, ())), False),
                (((ahead[:1], (do(0), do(0))), (beside, (do(0),))), False), ((ahead + (do(0),), beside + (do(0),)), False),
                (((ahead + (do(0),), ()), (beside, (do(0),))), False), (((ahead, [do(0)]), (beside, (do(0),))), False),
                (([ahead, (do(0),)], (beside, (do(0),))), False), (((ahead, (do(0),), ()), (beside, (do(0),))), False),
                (((ahead, (do(0), do(0))), (beside, (do(0), do(0)))), False), (((ahead, None), (beside, (do(0),))), False)):
            self.assertIs(shows_late(made, ASKED, (word, most, table, value), sheet=sheet), fine)

    def test_silent_with_a_sheet(self):
        made = maker('cell x 1\nhand h\n  a: ask x\n  log 1 u x\n  log 1 v')
        one, other = (do(0, 1), do(0)), (do(0, 0), do(0))
        rest = (do(0),)
        for value, fine in (((('silent', (one, rest), 1, (other, rest))), True), (('silent', (one, rest), 0, (other, rest)), False),
                            (('silent', (one + rest, ()), 0, (other + rest, ())), False),
                            (('silent', (one, rest), 1, (other, ())), False), (('silent', (one, ()), 0, (other, ())), False),
                            (('silent', (other, rest), 1, (one, rest)), False), (('silent', one + rest, 3, other + rest), False),
                            (('silent', (one, rest), 3, (other, rest)), False), (('silent', (one, rest), 2, (other, rest)), False)):
            self.assertIs(shows_late(made, ASKED, value, sheet=((1,),)), fine)
            self.assertIs(shows_late(made, ASKED, value), False)
        # Of runs that go on behind v nothing comes any more.
        self.assertIs(shows_late(made, ASKED, ('silent', (one + rest, ()), 0, (other + rest, ())), sheet=((2,),)), True)
        self.assertIs(shows_late(made, ASKED, ('silent', (one + rest, ()), 0, (other + rest, ())), sheet=((1,),)), False)

    def test_ever_with_a_sheet(self):
        made = maker(EVER)
        ahead, beside = (do(0, 1), do(0), do(0)), (do(0, 0), do(0), do(0))
        more = (do(0), do(0))
        for value, fine in ((('ever', (ahead, more), 0, (beside, more), 0), True), (('ever', (ahead, more), 1, (beside, more), 0), False),
                            (('ever', (ahead, more), 0, (beside, more), 1), False), (('ever', (ahead, more), 0, (beside, more), 2), False),
                            (('ever', (ahead, more * 2), 2, (beside, more * 2), 2), True), (('ever', (ahead, ()), 0, (beside, ()), 0), False),
                            (('ever', (ahead, more * 2), 2, (beside, more * 2), 0), False), (('ever', (beside, more), 0, (ahead, more), 0), False),
                            (('ever', (ahead + more, more), 0, (beside, more), 0), False), (('ever', ahead + more, 3, beside + more, 3), False)):
            self.assertIs(shows_late(made, ASKED, value, sheet=((U,),)), fine)
            self.assertIs(shows_late(made, ASKED, value), value[1] == ahead + more)
        self.assertIs(shows_late(made, ASKED, ('ever', (ahead + more, more), 0, (beside, more), 0), sheet=((None,),)), True)
        self.assertIs(shows_late(made, ASKED, ('ever', ahead + more, 3, beside + more, 3)), True)

    def test_any_value(self):
        for text in (TINY, EVER, QUIET):
            made = maker(text)
            for sheet in (None, ((),)):
                for value in ODD:
                    for told in (value, (value,), (value,) * 4, (value,) * 5, ('held', value, value, value), ('held', 1, value, None),
                                 ('held', 1, (value,), None), ('held', 1, ((value,) * 5,), None), ('silent', value, 0, value),
                                 ('silent', (), value, ()), ('ever', value, 0, value, 0), ('ever', (), value, (), value),
                                 ('held', value, (), None), ('silent', (value, value), 0, (value, value))):
                        self.assertIs(shows_late(made, ASKED, told, sheet=sheet), False)


class TestWrongValues(Case):
    def test_questions(self):
        made = maker(TINY)
        for value in (*ODD, ('is', 'x', 0), ('by', 'x', 'a'), ('at', 'h', None), ('ended', 'done'), ('not', ASKED),
                      ('and', ASKED, ('not', ASKED)), ('or', ASKED, ('is', 'x', 0)), ('or', ('is', 'x', 0), ASKED),
                      ('and', ('not', ASKED), ASKED), ('or', ASKED, ('by', 'x', None), ASKED), ('and', ASKED, ('or', ASKED, ('ended', 'open'))),
                      ('asked', 'a', 2), ('not', ('not', ASKED))):
            self.told(BadQuestion, value, late, made, value)
            self.told(BadQuestion, value, late, made, value, sheet=1)
            self.told(BadQuestion, value, shows_late, made, value, None)
            self.told(BadQuestion, value, shows_late, made, value, None, sheet=())
        for value in (ASKED, ('did', 'a', 1), ('ahead', 'a', 'b'), ('was', 'x', 1), ('fell', 1), ('spilt', 'go', 1),
                      ('and', ASKED, ('or', ASKED, ('fell', 1)))):
            self.assertIn(late(made, value)[0], ('held', 'silent'))

    def test_sheets(self):
        made = maker(TINY)
        for value in BAD_SHEETS:
            if value is not None:
                self.told(BadSheet, value, late, made, ASKED, sheet=value)
                self.told(BadSheet, value, shows_late, made, ASKED, None, sheet=value)

    def test_in_sequence(self):
        made = maker(TINY)
        wrong = [('question', ('not', ASKED), BadQuestion), ('sheet', 0, BadSheet)]
        self.told_in_sequence(late, {'maker': made, 'question': ASKED, 'sheet': None}, wrong)
        with self.assertRaises(NoRuns):
            shows_late(made, ASKED, (), sheet=((9,),))
        with self.assertRaises(TypeError):
            late(made, ASKED, ((1,),))

    def test_nothing_is_changed(self):
        for text in (TINY, EVER, QUIET):
            made = maker(text)
            told = self.unchanged(late, made, ASKED)
            self.unchanged(shows_late, made, ASKED, told)
            told = self.unchanged(late, made, ASKED, sheet=((),))
            self.unchanged(shows_late, made, ASKED, told, sheet=((),))


if __name__ == '__main__':
    unittest.main()
