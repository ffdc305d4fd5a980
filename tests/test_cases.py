import itertools
import unittest

from loggedruns.cases import shows_tests, tests
from loggedruns.covers import cover
from loggedruns.errors import BadEnd, BadQuestion, BadSheet, BadTests, TooMany
from loggedruns.questions import is_question, judge
from loggedruns.sheets import fits
from tests import generate, plain
from tests.common import GATE, ODD, TINY, Case, do, maker
from tests.test_covers import BAD_ENDS, BAD_SHEETS, BEYOND, JUST
from tests.test_often import labelled

GO, HOT = ('h', 'go', ()), ('h', 'hot', ())
ALL = ((None,),)
ENDS = (None, 'over', 'open')
# Both cells are asked; the sum tells whether both are 1.
PAIR = 'cell x 1\ncell y 1\nhand h\n  a: ask x\n  b: ask y\n  log 1 u\n  if x = y\n    c: log 1 v x'
U = ('h', 'u', ())
EQUAL = ('or', ('and', ('is', 'x', 0), ('is', 'y', 0)), ('and', ('is', 'x', 1), ('is', 'y', 1)))


def cheapest(truths, others):
    """The numbers that are told for cases with these truths."""
    found = []
    for many in range(len(others) + 1):
        for numbers in itertools.combinations(range(len(others)), many):
            seen = {tuple(one[k] for k in numbers) for one in truths}
            if len(seen) == len({(tuple(one[k] for k in numbers), one[-1]) for one in truths}):
                found.append((sum(others[k][1] for k in numbers), numbers))
    return min(found, default=(0, None))[1]


class TestTests(Case):
    def looked_at(self, made, sheet, question, others, end=None):
        """The numbers and the truths of the cases; all is looked at."""
        numbers, cases, table = told = tests(made, sheet, question, others, end=end)
        self.assertIs(shows_tests(maker=made, sheet=sheet, question=question, others=others, value=told, end=end), True)
        for truths, run in cases:
            self.assertIs(fits(made, sheet, run, end=end), True)
            self.same(truths, tuple([judge(made, one, run) for one in [*[other for other, _ in others], question]]))
        truths = [one for one, _ in cases]
        self.same(truths, sorted(set(truths)))
        self.same(numbers, cheapest(truths, others))
        self.same(sorted({member[:2] for member in table}), list(cover(made, sheet, end=end)))
        return numbers, truths

    def numbers(self, *words, **more):
        return self.looked_at(*words, **more)[0]

    def test_cheapest(self):
        made = maker(PAIR)
        x, y, v = ('asked', 'a', 1), ('asked', 'b', 1), ('did', 'c', 1)
        for others, expected in (
                (((x, 1), (y, 1)), (0, 1)), (((x, 1), (y, 1), (v, 3)), (0, 1)), (((x, 1), (y, 1), (v, 1)), (2,)),
                (((v, 2), (x, 1), (y, 1)), (0,)), (((x, 1), (v, 2), (y, 1)), (0, 2)), (((x, 1), (y, 1), (v, 2)), (0, 1)),
                (((v, 99),), (0,)), (((v, 1), (v, 1)), (0,)), (((v, 2), (v, 1)), (1,)), (((x, 1),), None),
                (((y, 99), (y, 98)), None), (((x, 98), (y, 1), (v, 99)), (0, 1)), (((x, 50), (y, 50), (v, 99)), (2,)),
                (((('not', v), 5), (x, 1), (x, 1), (y, 3), (v, 4)), (1, 3))):
            self.same(self.numbers(made, ((U, None),), EQUAL, others, end='over'), expected)

    def test_nothing_is_needed(self):
        made = maker(PAIR)
        others = ((('asked', 'a', 1), 1), (('asked', 'b', 1), 1))
        for sheet, question, end in ((((U, ('h', 'v', (1,))),), EQUAL, None), (((U,),), EQUAL, 'over'),
                                     (ALL, ('fell', 1), None), (ALL, ('was', 'x', 0), 'over')):
            self.same(self.numbers(made, sheet, question, others, end), ())

    def test_cases(self):
        made = maker(TINY)
        others = ((('did', 'b', 1), 1), (('asked', 'a', 0), 2))
        self.same(self.looked_at(made, ((GO, None),), ('asked', 'a', 1), others),
                  ((1,), [(False, False, True), (False, True, False), (True, False, True)]))
        self.same(self.looked_at(made, ((GO, None),), ('asked', 'a', 1), others, end='over'),
                  ((0,), [(False, True, False), (True, False, True)]))
        self.same(self.looked_at(made, ((GO, HOT),), ('asked', 'a', 1), others), ((), [(True, False, True)]))
        self.same(self.looked_at(made, ALL, ('asked', 'a', 1), others[:1]),
                  (None, [(False, False), (False, True), (True, True)]))
        # Of the empty run neither is true: that nothing was asked is no case of the others.
        self.same(self.looked_at(made, ALL, ('asked', 'a', 1), others),
                  (None, [(False, False, False), (False, False, True), (False, True, False), (True, False, True)]))

    def test_where_no_run_fits(self):
        made = maker(TINY)
        for sheet, end in ((((HOT,),), None), (((),), 'over'), (((3,), (None,)), 'open')):
            self.same(self.looked_at(made, sheet, ('fell', 1), ((('did', 'a', 1), 1),), end), ((), []))
            self.same(tests(made, sheet, ('fell', 1), ((('did', 'a', 1), 1),), end=end)[:2], ((), ()))

    def test_one_to_five(self):
        made = maker(PAIR)
        facts = (('asked', 'a', 0), ('asked', 'b', 0), ('is', 'y', 1), ('asked', 'a', 1), ('did', 'c', 1))
        for many in range(1, 6):
            others = tuple([(fact, 10) for fact in facts[:many]])
            self.same(self.numbers(made, ((U, None),), EQUAL, others, end='over'),
                      {1: None, 2: (0, 1), 3: (0, 1), 4: (0, 1), 5: (4,)}[many])

    def test_members_have_all_memories(self):
        made = maker('cell x 1\nhand h\n  a: ask x')
        others = ((('and', ('did', 'a', 2), ('asked', 'a', 1)), 3), (('is', 'x', 1), 2))
        numbers, cases, table = tests(made, ((),), ('by', 'x', None), others)
        first, none, one = [(((2,),), (0,), (), ((),), 0, 0, False), *[(((),), (x,), (), ((),), 0, 0, False) for x in (0, 1)]]
        self.same(table, ((none, ((0, 0),), ((1, 0), (0,), (0,))), (one, ((0, 0),), ((1, 1), (0,), (0,))),
                          (first, ((0, 0),), ((0, 0), (0,), (1,)))))
        self.same([numbers, cases], [None, (((False, False, False), (do(0, 0),)), ((False, False, True), ()),
                                            ((False, True, False), (do(0, 1),)))])

    def test_random(self):
        found = []
        for rng, made, runs in generate.makers(24, 250, 80):
            question = generate.question(rng, made.program)
            others = tuple([(generate.question(rng, made.program), rng.choice([1, 1, 2, 3])) for _ in range(rng.randint(1, 5))])
            if not all([is_question(made.program, one) for one in [question, *[other for other, _ in others]]]):
                continue
            sheet = generate.sheet(rng, [entry for entry in rng.choice(runs)[2] if entry is not None])
            asked = [*[other for other, _ in others], question]
            table = plain.minded(made, sheet, lambda run, stands: tuple([plain.memory(made, one, run, stands) for one in asked]),
                                 runs)
            for end in ENDS:
                truths = {tuple([plain.is_true(made, one, run, stands) for one in asked])
                          for run, stands in plain.fitted(made, runs, sheet, end)}
                self.same(self.looked_at(made, sheet, question, others, end), (cheapest(truths, others), sorted(truths)))
                self.same(tests(made, sheet, question, others, end=end)[2], table)
                found.append(cheapest(truths, others))
        self.assertGreater(len([numbers for numbers in found if numbers]), 5)
        self.assertGreater(found.count(None), 5)

    def test_limit(self):
        just, sheet = labelled(JUST, 'ask y')
        self.same(tests(just, sheet, ('fell', 1), ((('is', 'x', 1), 1),))[:2], ((), ()))
        for question, other in ((('fell', 1), ('asked', 'a', 1)), (('asked', 'a', 1), ('fell', 1))):
            self.told(TooMany, 2000, tests, just, sheet, question, ((other, 1),))
        beyond, sheet = labelled(BEYOND, 'log 1 u')
        self.told(TooMany, 2000, tests, beyond, sheet, ('fell', 1), ((('fell', 2), 1),))
        self.told_in_sequence(tests, {'maker': beyond, 'sheet': sheet, 'question': ('fell', 1),
                                      'others': ((('fell', 2), 1),), 'end': None},
                              [('sheet', 1, BadSheet), ('question', ('fell', 0), BadQuestion), ('others', (), BadTests),
                               ('end', 1, BadEnd)])
        self.assertIs(shows_tests(beyond, sheet, ('fell', 1), ((('fell', 2), 1),), ((), (), ())), False)


class TestShows(Case):
    question = ('asked', 'a', 1)
    others = ((('did', 'b', 1), 1), (('asked', 'a', 0), 2))
    sheet = ((GO, None),)

    def setUp(self):
        self.made = maker(TINY)
        self.numbers, self.cases, self.table = tests(self.made, self.sheet, self.question, self.others)

    def shows(self, *value, others=None, end=None, sheet=None):
        return shows_tests(self.made, sheet or self.sheet, self.question, others or self.others, value, end=end)

    def test_numbers(self):
        self.same(self.numbers, (1,))
        for numbers in ((), (0,), (0, 1), (1, 0), (1, 1), (True,), (2,), (-1,), None, [1], 1, ((1,),), (None,), ('1',), ([1],)):
            self.assertIs(self.shows(numbers, self.cases, self.table), False)
        self.assertIs(self.shows((1,), self.cases, self.table), True)
        # With other prices, others are the cheapest.
        others = ((('asked', 'a', 0), 2), (('asked', 'a', 0), 2))
        numbers, cases, table = tests(self.made, self.sheet, self.question, others)
        self.same(numbers, (0,))
        for prices, expected in (((2, 2), (0,)), ((3, 2), (1,)), ((1, 99), (0,)), ((99, 1), (1,))):
            others = tuple([(('asked', 'a', 0), price) for price in prices])
            for numbers in ((0,), (1,), (0, 1), (), (False,), None):
                self.assertIs(self.shows(numbers, cases, table, others=others), repr(numbers) == repr(expected))

    def test_not_even_all_are_enough(self):
        others = self.others[:1]
        numbers, cases, table = tests(self.made, self.sheet, self.question, others)
        self.assertIsNone(numbers)
        for numbers in ((), (0,), False, 0, [], 'None'):
            self.assertIs(self.shows(numbers, cases, table, others=others), False)
        self.assertIs(self.shows(None, cases, table, others=others), True)

    def test_cases(self):
        for k, (truths, run) in enumerate(self.cases):
            bad = [(), (self.cases[k],) * 2, ([truths, run],), ((truths,),), ((truths, run, run),), ((list(truths), run),),
                   ((tuple([int(truth) for truth in truths]), run),), ((truths[:-1], run),), ((truths, list(run)),),
                   ((truths, ()),), ((truths, None),), ((run, truths),), (None,), ((truths, (*run, do(0, 5))),), (truths,),
                   ((truths, run[:-1] + (1,)),)]
            for j in range(3):
                bad.append(((tuple([truth != (at == j) for at, truth in enumerate(truths)]), run),))
            for more in bad:
                self.assertIs(self.shows(self.numbers, (*self.cases[:k], *more, *self.cases[k + 1:]), self.table), False)
            for other, (_, else_run) in enumerate(self.cases):
                changed = (*self.cases[:k], (truths, else_run), *self.cases[k + 1:])
                self.assertIs(self.shows(self.numbers, changed, self.table), other == k)
        self.assertIs(self.shows(self.numbers, self.cases[::-1], self.table), False)
        self.assertIs(self.shows(self.numbers, list(self.cases), self.table), False)
        # Any run with these truths will do.
        self.same(self.cases[0][0], (False, False, True))
        for run, fine in (((do(0, 1), do(0)), True), ((do(0, 1), do(0), do(0)), True), ((do(0, 1),), False),
                          ((do(0, 1), do(0), do(0), do(0)), False), ((do(0, 0), do(0)), False)):
            self.assertIs(self.shows(self.numbers, (((False, False, True), run), *self.cases[1:]), self.table), fine)

    def test_table(self):
        for k, (one, spot, memories) in enumerate(self.table):
            bad = [(), (self.table[k],) * 2, ((one, spot),), ((one, spot, memories[:2]),), ((one, spot, (*memories, (0,))),),
                   ((one, spot, list(memories)),), ((one, spot, (list(memories[0]), *memories[1:])),), (None,),
                   ((one, spot, tuple([mark for memory in memories for mark in memory])),),
                   ((one, spot, tuple([tuple([bool(mark) for mark in memory]) for memory in memories])),),
                   ((one, spot, (*memories[:2], (2,))),), ((one, spot, (*memories[:2], (1 - memories[2][0],))),)]
            for more in bad:
                changed = (*self.table[:k], *more, *self.table[k + 1:])
                self.assertIs(self.shows(self.numbers, self.cases, changed), False)
        self.assertIs(self.shows(self.numbers, self.cases, list(self.table)), False)
        # More members, of which each that closes has the truths of some case.
        last = (((),), (0,), (), ((),), 0, 0, False)
        for memories in itertools.product(((0,), (1,)), repeat=3):
            truths = tuple([memory == (1,) for memory in memories])
            table = tuple(sorted({*self.table, (last, ((2, 0),), memories)}))
            self.assertIs(self.shows(self.numbers, self.cases, table), truths in [one for one, _ in self.cases])
            self.assertIs(self.shows(self.numbers, self.cases, table, end='over'), False)
            table = tuple(sorted({*self.table, (last, ((0, 0),), memories)}))
            self.assertIs(self.shows(self.numbers, self.cases, table), True)

    def test_ends(self):
        for end in ENDS:
            told = tests(self.made, self.sheet, self.question, self.others, end=end)
            self.assertIs(self.shows(*told, end=end), True)
            # Of other runs other truths come together.
            for other in ENDS:
                if 'over' in (end, other):
                    self.assertIs(self.shows(*told, end=other), end == other)

    def test_where_no_run_fits(self):
        sheet = ((HOT,),)
        numbers, cases, table = tests(self.made, sheet, self.question, self.others)
        self.same([numbers, cases], [(), ()])
        self.assertIs(self.shows((), (), table, sheet=sheet), True)
        for numbers in (None, (0,), (1,), []):
            self.assertIs(self.shows(numbers, (), table, sheet=sheet), False)
        for cases in ([], None, (((False, False, False), ()),), ((),)):
            self.assertIs(self.shows((), cases, table, sheet=sheet), False)
        self.assertIs(self.shows((), (), table[1:], sheet=sheet), False)

    def test_any_value(self):
        told = (self.numbers, self.cases, self.table)
        self.assertIs(self.shows(*told), True)
        for value in (*ODD, list(told), told[:2], (*told, None), told[::-1], told[1:]):
            self.assertIs(shows_tests(self.made, self.sheet, self.question, self.others, value), False)
        for value in ODD:
            self.assertIs(self.shows(value, *told[1:]), False)
            self.assertIs(self.shows(told[0], value, told[2]), False)
            self.assertIs(self.shows(*told[:2], value), False)
            self.assertIs(self.shows(told[0], (value,), told[2]), False)
            self.assertIs(self.shows(told[0], ((value, value),), told[2]), False)


class TestWrongValues(Case):
    def test_tests(self):
        made = maker(TINY)
        question, other = ('asked', 'a', 1), ('did', 'b', 1)
        for price in (1, 2, 98, 99):
            self.same(tests(made, ((GO, HOT),), question, ((other, price),))[0], ())
        for value in (*ODD, (other, 1), ((other,),), ((other, 1, 1),), ([other, 1],), [(other, 1)], ((1, other),),
                      *[((other, price),) for price in (0, -1, 100, True, None, '1', (1,))],
                      *[((bad, 1),) for bad in (('did', 'b', 4), ('did', 'h', 1), (), None, ['did', 'b', 1], 'did', ('not', 1))],
                      ((other, 1),) * 6, ((other, 1), (other, 0)), ((other, 1), None), ((other, 1), (('not',), 1))):
            self.told(BadTests, value, tests, made, ((GO,),), question, value)
            self.told(BadTests, value, shows_tests, made, ((GO,),), question, value, None)
        self.same(tests(made, ((GO, HOT),), question, ((other, 1),) * 5)[0], ())

    def test_in_sequence(self):
        made = maker(GATE)
        question = ('asked', 'a', 1)
        others = ((('did', 'b', 1), 1),)
        for value in BAD_SHEETS:
            self.told(BadSheet, value, tests, made, value, 1, 1, end=1)
        for value in (*ODD, ('did', 'b', 0)):
            self.told(BadQuestion, value, tests, made, ((1,),), value, others)
        for value in BAD_ENDS:
            self.told(BadEnd, value, tests, made, ((1,),), question, others, end=value)
        good = {'maker': made, 'sheet': ((9,),), 'question': question, 'others': others, 'end': None}
        wrong = [('sheet', 0, BadSheet), ('question', ('asked', 'a', 3), BadQuestion),
                 ('others', (((), 1),), BadTests), ('end', 'o', BadEnd)]
        self.told_in_sequence(tests, good, wrong)
        self.told_in_sequence(shows_tests, {**good, 'value': 1}, wrong)

    def test_nothing_is_changed(self):
        made = maker(GATE)
        told = self.unchanged(tests, made, ((1, None),), ('asked', 'a', 1), ((('did', 'b', 1), 1), (('is', 'x', 1), 1)))
        self.unchanged(shows_tests, made, ((1, None),), ('asked', 'a', 1), ((('did', 'b', 1), 1), (('is', 'x', 1), 1)), told)


if __name__ == '__main__':
    unittest.main()
