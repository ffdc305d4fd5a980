import unittest

from loggedruns.errors import BadEnd, BadRun, BadSheet
from loggedruns.sheets import fits, is_sheet
from tests.common import GATE, ODD, TINY, Case, do, maker

U, V = ('h', 'u', ()), ('h', 'v', (1, 0))
ITEMS = (U, V, (None, 'u', ()), ('h', None, ()), ('h', 'u', None), (None, None, None), ('h', 'v', (None, 0)),
         ('h', 'v', (None, None)), ('abcdefgh', 'z', (3,)), ('h', 'v', (0, 3)), 1, 5, 9, None)
NO_ITEMS = (0, 10, -1, True, False, 2 ** 80, 'u', (), (U,), U[:2], U + (1,), list(U), ('h', 'u', []), ('h', 'u', (4,)),
            ('h', 'u', (-1,)), ('h', 'u', (True,)), ('h', 'u', (False,)), ('h', 'u', (1, 1, 1)), ('h', 'u', ('1',)),
            ('h', 'u', 1), ('', 'u', ()), ('abcdefghi', 'u', ()), ('H', 'u', ()), ('h1', 'u', ()), ('h', '', ()),
            ('h', 'u v', ()), ('h', 1, ()), (1, 'u', ()), (True, 'u', ()), (['h'], 'u', ()), ('h', ('u',), ()),
            ('h', 'u', ((1,),)), ('h', 'u', {}), {}, {'h': 1}, [], [1])


class TestIsSheet(Case):
    def test_copies(self):
        for value in (((),), ((), ()), ((U,),), ((U,), (V, None)), ((None,), ()), (ITEMS[:12],), (ITEMS[2:],)):
            self.assertIs(is_sheet(value), True, value)
        for value in ((), ((), (), ()), ((U,), (U,), (U,)), [()], ([],), ([U],), (U,), U, None, 1, ((U,), None),
                      ((U,), [V]), (None,), (1,), ({},), ((), {}), 'ab', ('ab',)):
            self.assertIs(is_sheet(value), False, value)

    def test_items(self):
        for item in ITEMS:
            self.assertIs(is_sheet(((item,),)), True, item)
            self.assertIs(is_sheet(((), (U, item))), True, item)
        for item in NO_ITEMS:
            self.assertIs(is_sheet(((item,),)), False, item)
            self.assertIs(is_sheet(((U,), (None, item))), False, item)

    def test_how_many(self):
        self.assertIs(is_sheet(((U,) * 12,)), True)
        self.assertIs(is_sheet(((U,) * 13,)), False)
        self.assertIs(is_sheet(((), (9,) * 12)), True)
        self.assertIs(is_sheet(((), (9,) * 13)), False)

    def test_any_value(self):
        for value in ODD:
            self.assertIs(is_sheet(value=value), value == ((), ()), value)


class TestFits(Case):
    """TINY: with a value of 1 the log is go, hot, with 0 it is go."""

    def setUp(self):
        self.made = maker(TINY)
        self.hot = (do(0, 1), do(0), do(0), do(0))
        self.cold = (do(0, 0), do(0), do(0))

    def yes(self, run, *copies, **more):
        self.assertIs(fits(self.made, copies, run, **more), True)

    def no(self, run, *copies, **more):
        self.assertIs(fits(self.made, copies, run, **more), False)

    go, heat = ('h', 'go', ()), ('h', 'hot', ())

    def test_entries(self):
        self.yes(self.hot, (self.go, self.heat))
        self.yes(self.cold, (self.go,))
        self.yes((do(0, 1),), ())
        self.yes((), ())
        self.no((), (self.go,))
        self.no((do(0, 1),), (self.go,))
        self.no(self.hot, (self.go,))
        self.no(self.cold, (self.go, self.heat))
        self.no(self.hot, (self.heat, self.go))
        self.no(self.hot, (self.go, self.heat, self.heat))
        self.no(self.hot, ())

    def test_parts_that_cannot_be_read(self):
        for item in ((None, 'go', ()), ('h', None, ()), ('h', 'go', None), (None, None, None)):
            self.yes(self.cold, (item,))
        for item in ((None, 'hot', ()), ('k', None, ()), ('k', 'go', None), ('h', 'go', (None,)), (None, None, (0,))):
            self.no(self.cold, (item,))

    def test_values(self):
        made = maker('cell x 3\nhand h\n  ask x\n  log 1 w x x.odd')
        run = (do(0, 2), do(0))
        for values, fine in (((2, 0), True), ((None, 0), True), ((2, None), True), ((None, None), True), (None, True),
                             ((0, 2), False), ((None, 1), False), ((1, None), False), ((2,), False), ((None,), False),
                             ((), False)):
            self.assertIs(fits(made, ((('h', 'w', values),),), run), fine)

    def test_without_names(self):
        made = maker(TINY, names=False)
        self.assertIs(fits(made, (((None, 'go', ()),),), self.cold), True)
        self.assertIs(fits(made, ((self.go,),), self.cold), False)
        self.assertIs(fits(made, ((1,),), self.cold), True)

    def test_gaps(self):
        made = maker('hand h\n' + '\n'.join([f'  log 1 {word}' for word in 'abcdefghijk']))
        for many in range(12):
            run = (do(0),) * many
            for gap in range(1, 10):
                self.assertIs(fits(made, ((gap,),), run), gap == many)
                self.assertIs(fits(made, ((gap, None),), run), gap <= many)
                self.assertIs(fits(made, ((None, gap),), run), gap <= many)
                self.assertIs(fits(made, ((gap, gap),), run), 2 * gap == many)
                self.assertIs(fits(made, ((gap, ('h', 'c', ())),), run), gap == 2 and many == 3)
                self.assertIs(fits(made, ((None, ('h', 'c', ()), gap),), run), gap == many - 3)
            self.assertIs(fits(made, ((None,),), run), True)
            self.assertIs(fits(made, ((None, None, None),), run), True)
            self.assertIs(fits(made, ((),), run), many == 0)
            self.assertIs(fits(made, ((None, ('h', 'c', ()), None),), run), many >= 3)
            self.assertIs(fits(made, ((None, ('h', 'c', ())),), run), many == 3)

    def test_two_copies(self):
        self.yes(self.hot, (self.go, 1), (1, self.heat))
        self.yes(self.hot, (2,), (None,))
        self.yes(self.hot, (None, self.heat), (self.go, None))
        self.yes(self.hot, (self.go, self.heat), (self.go, self.heat))
        self.yes((), (), (None,))

    def test_copies_that_contradict_one_another(self):
        self.no(self.hot, (self.go, self.heat), (self.heat, self.go))
        self.no(self.hot, (2,), (1,))
        self.no(self.hot, (self.go, 1), (self.heat, 1))
        self.no(self.cold, (1,), ())

    def test_ends(self):
        self.yes(self.cold, (1,), end='open')
        self.no(self.cold, (1,), end='over')
        self.yes((*self.cold, do(0)), (1,), end='over')
        self.no((*self.cold, do(0)), (1,), end='open')
        for run in (self.cold, (*self.cold, do(0))):
            self.yes(run, (1,), end=None)
            for end in (None, 'over', 'open'):
                self.no(run, (2,), end=end)

    def test_ends_of_runs_that_are_stuck_and_fallen(self):
        for row in ('join h', 'fail w'):
            made = maker('cell x 1\nagain 0\nhand h\n  ask x\n  ' + row)
            run = (do(0, 0),) if row == 'join h' else (do(0, 0), do(0))
            self.assertIs(fits(made, ((),), run, end='over'), True)
            self.assertIs(fits(made, ((),), run, end='open'), False)
        made = maker('again 1\nhand h\n  fail w')
        self.assertIs(fits(made, ((),), (do(0),), end='open'), True)
        made = maker('box 1\nhand h\n  log 1 u')
        self.assertIs(fits(made, ((),), (do(0),), end='over'), False)

    def test_by_name(self):
        self.assertIs(fits(maker=self.made, sheet=((1,),), run=self.cold, end='open'), True)
        with self.assertRaises(TypeError):
            fits(self.made, ((1,),), self.cold, 'open')


class TestWrongValues(Case):
    def test_sheet_run_and_end(self):
        gate = maker(GATE)
        bad_sheets = [*[value for value in ODD if value != ((), ())], ((1,),) * 3, ([],), ((0,),), ((True,),)]
        bad_runs = [value for value in ODD if value != ()]
        bad_ends = [value for value in ODD if value is not None]
        for value in bad_sheets:
            self.told(BadSheet, value, fits, gate, value, ())
            self.told(BadSheet, value, fits, gate, value, None, end=1)
        for value in bad_runs:
            self.told(BadRun, value, fits, gate, ((),), value)
            self.told(BadRun, value, fits, gate, ((),), value, end='stuck')
        for value in [*bad_ends, 'done', 'stuck', 'fallen', 'OVER', ('over',), ['open']]:
            self.told(BadEnd, value, fits, gate, ((),), (), end=value)


if __name__ == '__main__':
    unittest.main()
