import itertools
import random
import unittest

from loggedruns.errors import BadQuestion, TooMany
from loggedruns.questions import is_question
from loggedruns.settling import settled, shows_settled
from tests import generate, plain, plainlate
from tests.common import AGAIN, GATE, ODD, TINY, Case, do, maker

ASKED = ('asked', 'a', 1)
MUTE = 'cell x 1\nhand h\n  a: ask x\n  log 1 u\n  flush'


def runs_of(*beginnings, most):
    return [(*run, *[do(0)] * many) for run in beginnings for many in range(most)]


class SettledCase(Case):
    def word(self, made, question):
        """The word; what shows it is looked at."""
        told = settled(made, question)
        self.assertIs(shows_settled(maker=made, question=question, value=told), True)
        nodes = plainlate.Nodes(made, question)
        if told[0] == 'settled':
            self.same(len(told), 2)
            self.assertTrue(nodes.is_settling(told[1]))
            self.same(told[1], self.least(nodes))
        else:
            self.same([told[0], len(told)], ['open', 3])
            self.assertTrue(self.are_parting(nodes, *told[1:]))
        return told[0]

    def least(self, nodes):
        queue = [(plainlate.first(nodes.made, nodes.question),) * 2]
        found = set(queue)
        while queue:
            for _, one, other in nodes.pairs(*queue.pop()):
                if (one, other) not in found:
                    found.add((one, other))
                    queue.append((one, other))
        return tuple(sorted([(*one, *other) for one, other in found]))

    def are_parting(self, nodes, one, other):
        (here, got), (there, had) = nodes.trail(one), nodes.trail(other)
        if plainlate.written(got) != plainlate.written(had) or not (nodes.is_over(here[-1]) and nodes.is_over(there[-1])):
            return False
        return nodes.is_true(here[-1]) != nodes.is_true(there[-1])


class TestSettled(SettledCase):
    def test_settled(self):
        for text, question in ((TINY, ASKED), (TINY, ('not', ASKED)), (TINY, ('is', 'x', 1)), (MUTE, ('did', 'a', 1)),
                               (MUTE, ('was', 'x', 0)), (GATE, ('ended', 'done')), (GATE, ('fell', 1)),
                               (TINY, ('at', 'h', None)), (TINY, ('by', 'x', 'a'))):
            self.same(self.word(maker(text), question), 'settled')

    def test_open(self):
        for text, question in ((MUTE, ASKED), (MUTE, ('not', ASKED)), (MUTE, ('is', 'x', 0)), (MUTE, ('asked', 'a', 0)),
                               (GATE, ('is', 'x', 0)), (GATE, ('ahead', 'd', 'c')),
                               (MUTE, ('and', ('did', 'a', 1), ('is', 'x', 1)))):
            self.same(self.word(maker(text), question), 'open')
        self.same(self.word(maker(TINY, every=2), ASKED), 'open')
        self.same(self.word(maker(TINY, level=2), ASKED), 'open')
        self.same(self.word(maker(TINY, every=3), ASKED), 'settled')

    def test_two_runs_that_part(self):
        one, other = [(do(0, x), do(0), do(0)) for x in (0, 1)]
        self.assertIn(settled(maker(MUTE), ASKED), (('open', one, other), ('open', other, one)))

    def test_runs_that_are_never_over_are_not_regarded(self):
        made = maker('cell x 1\nhand h\n  a: ask x\n  while x = x\n    flush')
        for question in (ASKED, ('is', 'x', 0), ('not', ASKED)):
            self.same(self.word(made, question), 'settled')
        made = maker('cell x 1\nhand h\n  a: ask x\n  while x > 0\n    flush\n  log 1 u')
        self.same(self.word(made, ASKED), 'settled')
        made = maker('cell x 1\nhand h\n  a: ask x\n  while x = x\n    log 1 u')
        self.same(self.word(made, ASKED), 'settled')
        # Those that end are, after any number of entries.
        made = maker('cell x 1\ncell y 1\nhand h\n  a: ask x\n  while y = 0\n    log 1 u\n    ask y')
        self.same(self.word(made, ASKED), 'open')
        made = maker('cell x 1\ncell y 1\nhand h\n  a: ask x\n  while y = 0\n    log 1 u\n    ask y\n  log 1 v x')
        self.same(self.word(made, ASKED), 'settled')

    def test_all_ends(self):
        made = maker('cell x 2\nlock l\nhand one\n  start two\n  ask x\n  if x = 0\n    fail w\n  if x = 1\n    take l\n'
                     'hand two\n  take l')
        for word in ('done', 'fallen', 'stuck'):
            self.same(self.word(made, ('ended', word)), 'open')
        self.same(self.word(made, ('ended', 'open')), 'settled')

    def test_falls(self):
        made = maker('cell x 1\nagain 1\nhand h\n  log 1 u\n  a: ask x\n  if x = 1\n    b: fail w\n  log 1 v')
        self.same(self.word(made, ('fell', 1)), 'settled')
        self.same(self.word(made, ('by', 'x', None)), 'settled')
        made = maker('cell x 1\nbox 1\nagain 1\nhand h\n  log 1 u\n  a: ask x\n  if x = 1\n    b: fail w\n  log 1 v')
        self.same(self.word(made, ('fell', 1)), 'open')
        self.same(self.word(made, ('spilt', 'u', 1)), 'open')

    def test_limit(self):
        text = 'cell x 3\nhand h\n' + '  ask x\n' * 15 + '  set x 0\n  flush'
        self.same(len(settled(maker(text), ('fell', 1))[1]), (1 + 15 * 4 + 2) ** 2)
        made = maker(text + '\n  flush')
        self.told(TooMany, 4000, settled, made, ('fell', 1))
        self.told(TooMany, 4000, settled, made, ('is', 'x', 1))
        made = maker('cell x 3\ncell y 3\nhand h\n  a: ask x' + '\n  ask y' * 5)
        self.told(TooMany, 4000, settled, made, ASKED)
        self.told(BadQuestion, ('is', 'x', 4), settled, made, ('is', 'x', 4))
        # What looks at values does not raise it.
        one, other = [(do(0, x), *[do(0, 0)] * 5) for x in (0, 1)]
        self.assertIs(shows_settled(made, ASKED, ('open', one, other)), True)
        self.assertIs(shows_settled(made, ASKED, ('settled', ())), False)
        nodes = plainlate.Nodes(made, ('fell', 1))
        table = self.least(nodes)
        self.assertGreater(len(table), 4000)
        self.assertIs(shows_settled(made, ('fell', 1), ('settled', table)), True)

    def test_random(self):
        found = {'settled': 0, 'open': 0}
        for rng, made, runs in generate.makers(30, 300, 60, generate.talker):
            question = generate.question(rng, made.program)
            if not is_question(made.program, question):
                continue
            over = [(tuple(plainlate.written(got)), plain.is_true(made, question, run, stands)) for run, stands, got in runs
                    if plain.state(made, stands[-1]) != 'open']
            word = self.word(made, question)
            self.same(word, 'open' if len(set(over)) > len({log for log, _ in over}) else 'settled')
            found[word] += 1
        self.assertGreater(min(found.values()), 10)

    def test_random_loops(self):
        rng = random.Random(31)
        found = {'settled': 0, 'open': 0}
        for _ in range(400):
            made = generate.talker(rng, True)
            question = generate.fact(rng, made.program)
            try:
                told = settled(made, question)
            except TooMany:
                continue
            if told[0] == 'open' or len(told[1]) < 300:
                found[self.word(made, question)] += 1
        self.assertGreater(min(found.values()), 2)


class TestShows(SettledCase):
    def test_tables_otherwise(self):
        made = maker('cell x 1\nhand h\n  a: ask x\n  log 1 u x')
        word, table = settled(made, ASKED)
        nodes = plainlate.Nodes(made, ASKED)
        for k, member in enumerate(table):
            one, memory, other, marks = member
            bad = [(), (member,) * 2, (list(member),), (member[:3],), ((*member, 0),), ((one, list(memory), other, marks),),
                   ((one, (1 - memory[0],), other, marks),), ((one, memory, other, (1 - marks[0],)),), ((one, (2,), other, marks),),
                   ((one, (), other, marks),), ((memory, one, marks, other),), ((one, memory, other, (bool(marks[0]),)),), (None,),
                   ((one, memory, other, (None,)),), ((one[:6] + (0,), memory, other, marks),), ((one, memory, list(other), marks),),
                   ((one, memory[0], other, marks),)]
            for more in bad:
                self.assertIs(shows_settled(made, ASKED, (word, (*table[:k], *more, *table[k + 1:]))), False)
            for swap in range(k):
                swapped = list(table)
                swapped[k], swapped[swap] = swapped[swap], swapped[k]
                self.assertIs(shows_settled(made, ASKED, (word, tuple(swapped))), False)
        last = [((((),), (x,), (), ((),), 0, 0, False), (mark,)) for x in (0, 1) for mark in (0, 1)]
        for one, other in itertools.product(last, repeat=2):
            more = tuple(sorted({*table, (*one, *other)}))
            self.assertIs(nodes.is_settling(more), one[1] == other[1])
            self.assertIs(shows_settled(made, ASKED, (word, more)), one[1] == other[1])
        self.assertIs(shows_settled(made, ASKED, (word, table)), True)
        self.assertIs(shows_settled(made, ('asked', 'a', 0), (word, table)), False)
        self.assertIs(shows_settled(maker(MUTE), ASKED, (word, table)), False)

    def test_greater_tables_have_to_be_closed(self):
        made = maker('cell x 1\nhand h\n  a: ask x\n  flush\n  log 1 u x')
        word, table = settled(made, ASKED)
        nodes = plainlate.Nodes(made, ASKED)
        stands = [((((line,) if line else (),), (x,), (), ((),), 0, 0, False), (mark,))
                  for line in (0, 3, 4) for x in (0, 1) for mark in (0, 1)]
        yes = 0
        for one, other in itertools.product(stands, repeat=2):
            more = tuple(sorted({*table, (*one, *other)}))
            fine = nodes.is_settling(more)
            yes += fine and more != table
            self.assertIs(shows_settled(made, ASKED, (word, more)), fine)
        self.assertGreater(yes, 3)

    def test_open(self):
        made = maker(MUTE)
        nodes = plainlate.Nodes(made, ASKED)
        runs = [(), *runs_of((do(0, 0),), (do(0, 1),), most=3)]
        shown = 0
        for one, other in itertools.product(runs, repeat=2):
            fine = self.are_parting(nodes, one, other)
            shown += fine
            self.assertIs(shows_settled(made, ASKED, ('open', one, other)), fine)
            self.assertIs(shows_settled(made, ('did', 'a', 1), ('open', one, other)), False)
        self.same(shown, 2)
        # Unlike logs, though both are over and the question is true of one alone.
        one, other = [(do(0, x), do(0), do(0)) for x in (0, 1)]
        self.assertIs(shows_settled(maker('cell x 1\nhand h\n  a: ask x\n  log 1 u x\n  flush'), ASKED, ('open', one, other)), False)
        self.assertIs(shows_settled(made, ASKED, ('open', one, other)), True)
        for value in (['open', one, other], ('open', one), ('open', one, other, other), ('open', list(one), other),
                      ('open', one, list(other)), ('open', one, None), ('open', (do(0, True), do(0), do(0)), one), ('Open', one, other),
                      ('settled', one, other), (one, other, 'open'), ('open', (*one, do(0)), other), ('open', one, one), (True, one, other)):
            self.assertIs(shows_settled(made, ASKED, value), False)

    def test_open_with_falls(self):
        made = maker('cell x 1\nagain 1\nhand h\n  a: ask x\n  if x = 1\n    fail w')
        once, twice = (do(0, 1), do(0), do(0), AGAIN, do(0, 0), do(0)), (do(0, 1), do(0), do(0), AGAIN, do(0, 1), do(0), do(0))
        self.assertIs(shows_settled(made, ('fell', 2), ('open', once, twice)), True)
        self.assertIs(shows_settled(made, ('fell', 2), ('open', twice, once)), True)
        self.assertIs(shows_settled(made, ('fell', 1), ('open', once, twice)), False)
        self.assertIs(shows_settled(made, ('fell', 2), ('open', once, twice[:3])), False)

    def test_any_value(self):
        for text in (TINY, MUTE):
            made = maker(text)
            told = settled(made, ASKED)
            for value in ODD:
                for one in (value, (value,), (value, value), (value,) * 3, ('settled', value), ('open', value, value),
                            ('settled', (value,)), ('settled', ((value,) * 4,)), ('open', (value,), (value,))):
                    self.assertIs(shows_settled(made, ASKED, one), False)
            for value in (list(told), told[1:], told[::-1], (*told, None), ('settled', list(told[1])), (None, *told[1:])):
                self.assertIs(shows_settled(made, ASKED, value), False)


class TestWrongValues(Case):
    def test_questions(self):
        made = maker(TINY)
        for value in (*ODD, ('asked', 'a', 2), ('not',), ('and', ASKED)):
            self.told(BadQuestion, value, settled, made, value)
            self.told(BadQuestion, value, shows_settled, made, value, None)

    def test_nothing_is_changed(self):
        for text in (TINY, MUTE):
            told = self.unchanged(settled, maker(text), ASKED)
            self.unchanged(shows_settled, maker(text), ASKED, told)


if __name__ == '__main__':
    unittest.main()
