import unittest

from loggedruns.covers import cover
from loggedruns.errors import BadEnd, BadSheet, NoItem, TooMany
from loggedruns.fitting import fillings, fitting, shortest, shows_none, shows_shortest, stands_at
from loggedruns.sheets import fits
from loggedruns.stands import led, state
from tests.common import AGAIN, GATE, ODD, TINY, Case, do, gone, maker, write
from tests.test_covers import BAD_ENDS, BAD_SHEETS, BEYOND, JUST

GO, HOT, DONE = ('h', 'go', ()), ('h', 'hot', ()), ('one', 'done', ())


def went(value):
    return ('one', 'went', (value,))


class TestExample(Case):
    def test_gate(self):
        gate = maker(GATE)
        last = ('one', 'done', ())
        self.same([fitting(gate, ((last,),)), fillings(gate, ((3, last),), 0, 0)],
                  [('run', (('do', 0, 0), ('do', 0, None), ('do', 0, None), ('do', 0, None), ('write', 0))),
                   ((('one', 'went', (0,)), ('one', 'went', (1,)), ('one', 'went', (0,))),
                    (('one', 'went', (1,)), ('one', 'went', (1,)), ('one', 'went', (0,))),
                    (('one', 'went', (2,)), ('one', 'went', (1,)), ('one', 'went', (0,))))])


class TestFitting(Case):
    def setUp(self):
        self.made = maker(TINY)

    def test_shortest_run(self):
        for sheet, end, run in (
                (((),), None, ()), (((),), 'open', ()), (((None,),), None, ()), (((GO,),), None, (do(0, 0), do(0))),
                (((GO,),), 'over', (do(0, 0), do(0), do(0), do(0))), (((None,),), 'over', (do(0, 0), *[do(0)] * 3)),
                (((GO, HOT),), None, (do(0, 1), *[do(0)] * 3)), (((2,),), 'open', (do(0, 1), *[do(0)] * 3)),
                (((None, HOT),), 'over', (do(0, 1), *[do(0)] * 4)), (((1,), (GO,)), None, (do(0, 0), do(0))),
                (((1, None), (None, HOT)), None, (do(0, 1), *[do(0)] * 3))):
            self.same(fitting(self.made, sheet, end=end), ('run', run))
            self.same(shortest(self.made, sheet, end=end)[0], run)
            self.assertIs(fits(self.made, sheet, run, end=end), True)

    def test_none(self):
        for sheet, end in ((((HOT,),), None), (((),), 'over'), (((3,),), None), (((GO, GO),), None),
                           (((HOT, GO),), None), (((1,), (2,)), None), (((('k', 'go', ()),),), None),
                           (((('h', 'go', (0,)),),), None)):
            word, table = fitting(self.made, sheet, end=end)
            self.same([word, table], ['none', cover(self.made, sheet)])
            self.assertIs(shows_none(self.made, sheet, table, end=end), True)
            self.assertIsNone(shortest(self.made, sheet, end=end))

    def test_the_least_of_several(self):
        made = maker('cell x 2\nhand h\n  ask x\n  ask x\n  if x > 0\n    log 1 u')
        self.same(fitting(made, ((1,),)), ('run', (do(0, 0), do(0, 1), do(0), do(0))))
        made = maker('hand a\n  start b\n  log 1 u\nhand b\n  log 1 u', names=False)
        self.same(fitting(made, ((1,),)), ('run', (do(0), do(0))))
        self.same(fitting(made, ((2,),)), ('run', (do(0), do(0), do(1))))
        made = maker('box 1\nhand a\n  log 1 u\n  start b\nhand b\n  log 1 u', names=False)
        self.same(fitting(made, ((2,),)), ('run', (do(0), do(0), do(1), write(0), write(1))))

    def test_a_shorter_run_that_is_greater(self):
        made = maker('cell x 1\nhand h\n  ask x\n  if x = 0\n    set x 1\n  log 1 u')
        self.same(fitting(made, ((1,),)), ('run', (do(0, 1), do(0), do(0))))

    def test_passes_count_nothing(self):
        made = maker('hand h\n  log 1 u')
        self.same(fitting(made, ((None,) * 5 + (1,) + (None,) * 6,)), ('run', (do(0),)))

    def test_falls_and_drops(self):
        made = maker('cell x 1\nbox 1\nagain 1\nhand h\n  log 1 u\n  ask x\n  if x = 0\n    fail w\n  log 1 v')
        u = ('h', 'u', ())
        self.same(fitting(made, ((u, u),)), ('run', (do(0), do(0, 0), do(0), write(0), do(0), AGAIN, do(0), write(0))))
        made = maker('hand h\n  log 1 u\n  log 1 v\n  log 1 u', every=2)
        self.same(fitting(made, ((u, u),)), ('run', (do(0), do(0), do(0))))
        self.same(fitting(made, ((1, ('h', 'v', ())),))[0], 'none')

    def test_endless_programs(self):
        made = maker('cell x 1\nhand h\n  while x = 0\n    log 1 u')
        self.same(fitting(made, ((9, 9),)), ('run', (do(0),) * 36))
        self.same(fitting(made, ((9,),), end='over')[0], 'none')

    def test_too_many(self):
        self.same(fitting(*JUST), ('none', cover(*JUST)))
        self.assertIsNone(shortest(*JUST))
        self.told(TooMany, 2000, fitting, *BEYOND)
        self.told(TooMany, 2000, shortest, *BEYOND)
        made, sheet = BEYOND
        self.told(TooMany, 2000, stands_at, made, sheet, 0, 0)
        self.told(TooMany, 2000, fillings, made, sheet, 0, 3)
        # Also where a run is found at once.
        wide = maker('cell x 3\ncell y 3\ncell z 3\nhand h\n  while x = x\n    ask x\n    ask y\n    ask z')
        sheet = ((None,) * 12,)
        self.assertIs(fits(wide, sheet, ()), True)
        self.told(TooMany, 2000, fitting, wide, sheet)
        self.told(TooMany, 2000, shortest, wide, sheet, end='open')


class TestShowsNone(Case):
    def setUp(self):
        self.made = maker(TINY)

    def test_closing_pairs(self):
        least = cover(self.made, ((GO,),))
        self.assertIs(shows_none(self.made, ((GO,),), least), False)
        self.assertIs(shows_none(self.made, ((GO,),), least, end='over'), False)
        self.assertIs(shows_none(self.made, ((GO,),), least, end='open'), False)
        least = cover(self.made, ((),))
        self.assertIs(shows_none(self.made, ((),), least), False)
        self.assertIs(shows_none(self.made, ((),), least, end='open'), False)
        self.assertIs(shows_none(maker=self.made, sheet=((),), value=least, end='over'), True)
        # A greater cover with a pair that closes shows nothing, though no run comes to it.
        last = (((),), (0,), (), ((),), 0, 0, False)
        self.assertIs(shows_none(self.made, ((),), tuple(sorted([*least, (last, ((0, 0),))])), end='over'), False)

    def test_no_covers(self):
        least = cover(self.made, ((HOT,),))
        self.assertIs(shows_none(self.made, ((HOT,),), least), True)
        for k in range(len(least)):
            self.assertIs(shows_none(self.made, ((HOT,),), least[:k] + least[k + 1:]), False)
        for value in (*ODD, list(least), ('none', least), least + least):
            self.assertIs(shows_none(self.made, ((HOT,),), value), False)


class TestShortest(Case):
    def setUp(self):
        self.made = maker(TINY)
        self.sheet = ((GO, HOT),)
        self.run, self.heights = shortest(self.made, self.sheet)

    def shows(self, value, length=4, **more):
        return shows_shortest(self.made, self.sheet, length, value, **more)

    def test_lengths(self):
        for length in range(-1, 8):
            self.assertIs(self.shows(self.heights, length), length <= 4)
        self.assertIs(shows_shortest(maker=self.made, sheet=self.sheet, length=4, value=self.heights, end=None), True)

    def test_ends(self):
        run, heights = shortest(self.made, self.sheet, end='over')
        self.same(len(run), 5)
        self.assertIs(self.shows(heights, 5, end='over'), True)
        self.assertIs(self.shows(heights, 5, end='open'), False)
        self.assertIs(self.shows(heights, 5), False)
        self.assertIs(self.shows(heights, 6, end='over'), False)

    def test_where_no_run_fits_any_length_is_shown(self):
        made, sheet = self.made, ((HOT,),)
        heights = tuple([(*pair, 0) for pair in cover(made, sheet)])
        self.assertIs(shows_shortest(made, sheet, 99, heights), True)

    def test_other_heights(self):
        lower = tuple([(stand, spot, height - 1) for stand, spot, height in self.heights])
        higher = tuple([(stand, spot, height + 1) for stand, spot, height in self.heights])
        self.assertIs(self.shows(lower), False)
        self.assertIs(self.shows(lower, 3), True)
        self.assertIs(self.shows(higher), False)
        for k, (stand, spot, height) in enumerate(self.heights):
            # They are all just as great as those ahead of them let them be.
            for other in (height + 1, True, False, None, str(height), (height,), height + 50):
                changed = (*self.heights[:k], (stand, spot, other), *self.heights[k + 1:])
                self.assertIs(self.shows(changed), False, changed[k])
            cut = (*self.heights[:k], (stand, spot, height - 1), *self.heights[k + 1:])
            # Only where nothing comes behind it one may be less; the one that closes has 5.
            self.assertIs(self.shows(cut), stand[0] == ((),))
            self.assertIs(self.shows(self.heights[:k] + self.heights[k + 1:]), False)
            self.assertIs(self.shows(self.heights[:k] + self.heights[k:k + 1] + self.heights[k:]), False)
            twice = (*self.heights[:k], (stand, spot, height - 1), *self.heights[k:])
            self.assertIs(self.shows(twice), False)
            self.assertIs(self.shows((*self.heights[:k], [stand, spot, height], *self.heights[k + 1:])), False)
            self.assertIs(self.shows((*self.heights[:k], (stand, spot), *self.heights[k + 1:])), False)

    def test_no_forms(self):
        last, spot = (((),), (0,), (), ((),), 0, 0, False), ((2, 0),)
        self.assertIs(self.shows(tuple(sorted([*self.heights, (last, spot, 9)]))), True)
        for bad in ((last[:6] + (0,), spot, 9), ((*last[:5], False, False), spot, 9), ((*last[:5], 1, False), spot, 9),
                    (last, ((2, False),), 9), (last, ((2, 1),), 9), (last, ((3, 0),), 9), (last, ((2, 0), (2, 0)), 9),
                    ((((),), (2,), *last[2:]), spot, 9), ((((),), (False,), *last[2:]), spot, 9)):
            self.assertIs(self.shows(tuple(sorted([*self.heights, bad]))), False)
        for bad in ((None, spot, 9), (last, None, 9), (list(last), spot, 9), (last, list(spot), 9), (spot, last, 9)):
            for k in range(len(self.heights) + 1):
                self.assertIs(self.shows((*self.heights[:k], bad, *self.heights[k:])), False)
        for k, (stand, way, height) in enumerate(self.heights):
            same = ((*stand[:4], False, *stand[5:]), way, height)
            self.assertEqual(same, self.heights[k])
            self.assertIs(self.shows((*self.heights[:k], same, *self.heights[k + 1:])), False)

    def test_pass_is_no_greater(self):
        made, sheet = maker('hand h\n  log 1 u'), ((None, 1),)
        run, heights = shortest(made, sheet)
        self.same(run, (do(0),))
        self.same(sorted([height for _, _, height in heights]), [0, 0, 1, 1, 1])
        for k, (stand, spot, height) in enumerate(heights):
            changed = (*heights[:k], (stand, spot, height + 1), *heights[k + 1:])
            self.assertIs(shows_shortest(made, sheet, 1, changed), False)

    def test_any_value(self):
        for value in (*ODD, list(self.heights), self.heights[::-1], (self.run, self.heights), cover(self.made, self.sheet)):
            self.assertIs(self.shows(value), False)
            self.assertIs(self.shows((value,)), False)

    def test_negative_heights_and_greater_tables(self):
        last = (((),), (0,), (), ((),), 0, 0, False)
        for height, fine in ((4, True), (3, False), (50, True)):
            table = tuple(sorted([*self.heights, (last, ((2, 0),), height)]))
            self.assertIs(self.shows(table), fine)
        self.assertIs(self.shows(tuple(sorted([*self.heights, (last, ((0, 0),), -7)]))), True)


class TestStandsAt(Case):
    def setUp(self):
        self.made = maker(TINY)

    def lines(self, *words, **more):
        return [(stand[0][0], stand[1][0]) for stand in stands_at(self.made, *words, **more)]

    def test_each_index(self):
        sheet = ((GO, HOT),)
        self.same(self.lines(sheet, 0, 0), [((2,), 0), ((3,), 1)])
        self.same(self.lines(sheet, 0, 1), [((4,), 1), ((5,), 1)])
        self.same(self.lines(sheet, 0, 2), [((), 1), ((6,), 1)])
        self.same(self.lines(sheet, copy=0, index=2, end='over'), [((), 1), ((6,), 1)])
        self.same(self.lines(sheet, 0, 2, end='open'), [((6,), 1)])

    def test_behind_a_dropped_or_boxed_entry(self):
        made = maker('box 1\nhand h\n  log 1 u\n  log 1 v')
        sheet = ((('h', 'u', ()),),)
        boxed = [stand[3] for stand in stands_at(made, sheet, 0, 0)]
        self.same(boxed, [((),), ((('h', 'u', ()),),)])
        self.same([stand[3] for stand in stands_at(made, sheet, 0, 1)], [((('h', 'v', ()),),), ((),)])
        self.same(stands_at(made, sheet, 0, 1), (gone(made, do(0), write(0), do(0)), gone(made, do(0), write(0))))

    def test_gaps_of_both_kinds(self):
        sheet = ((None, HOT),)
        self.same(self.lines(sheet, 0, 0), [((2,), 0), ((3,), 1), ((4,), 1), ((5,), 1)])
        self.same(self.lines(sheet, 0, 1), [((4,), 1), ((5,), 1)])
        sheet = ((2,),)
        self.same(self.lines(sheet, 0, 0), [((2,), 0), ((3,), 1)])
        self.same(self.lines(sheet, 0, 1), [((), 1), ((6,), 1)])
        sheet = ((1, None),)
        self.same(self.lines(sheet, 0, 1), [((), 0), ((), 1), ((4,), 0), ((4,), 1), ((5,), 1), ((6,), 0), ((6,), 1)])
        self.same(self.lines(sheet, 0, 2), self.lines(sheet, 0, 1))
        # With an end no run stops ahead of hot; where the copy is read it cannot be taken.
        self.same(self.lines(sheet, 0, 2, end='over'), [((), 0), ((), 1), ((4,), 0), ((6,), 0), ((6,), 1)])

    def test_gap_in_the_middle_is_read_by_the_other_copy(self):
        sheet = ((None,), (GO, HOT))
        self.same(self.lines(sheet, 0, 1), [((), 1), ((6,), 1)])
        self.same(self.lines(sheet, 1, 1), [((4,), 1), ((5,), 1)])

    def test_no_run(self):
        self.same(stands_at(self.made, ((HOT,),), 0, 0), ())
        self.same(stands_at(self.made, ((HOT,),), 0, 1), ())
        self.same(stands_at(self.made, ((), ()), 1, 0, end='over'), ())

    def test_empty_sheet(self):
        self.same(self.lines(((),), 0, 0), [((2,), 0), ((3,), 0), ((3,), 1)])


class TestFillings(Case):
    def test_gate(self):
        gate = maker(GATE)
        self.same(fillings(gate, ((1, DONE),), 0, 0), ((went(0),),))
        self.same(fillings(gate, ((1, 1, DONE),), 0, 0), ((went(1),),))
        self.same(fillings(gate, ((1, 1, DONE),), 0, 1), ((went(0),),))
        self.same(fillings(gate, ((went(2), 2, DONE), (1, 1, went(0), 1)), 0, 1), ((went(1), went(0)),))
        self.same(fillings(maker=gate, sheet=((1,),), copy=0, index=0, end='over'), ((DONE,),))
        self.same(fillings(gate, ((1,),), 0, 0, end='open'), tuple(sorted([(DONE,), (went(0),), (went(1),), (went(2),)])))

    def test_none(self):
        made = maker(TINY)
        self.same(fillings(made, ((3,),), 0, 0), ())
        self.same(fillings(made, ((1, GO),), 0, 0), ())
        self.same(fillings(made, ((2,),), 0, 0), ((GO, HOT),))
        self.same(fillings(made, ((1,),), 0, 0), ((GO,),))
        self.same(fillings(made, ((GO, 1),), 0, 1), ((HOT,),))

    def test_told_by_the_other_copy(self):
        made = maker('cell x 3\nhand h\n  ask x\n  log 1 w x')
        full = [('h', 'w', (value,)) for value in range(4)]
        self.same(fillings(made, ((1,), (None,)), 0, 0), tuple([(entry,) for entry in full]))
        self.same(fillings(made, ((1,), (full[2],)), 0, 0), ((full[2],),))
        self.same(fillings(made, ((full[2],), (1,)), 1, 0), ((full[2],),))
        self.same(fillings(made, ((1,), (('h', 'w', (None,)),)), 0, 0), tuple([(entry,) for entry in full]))

    def test_ways_of_taking(self):
        made = maker('hand h\n  log 1 a\n  log 1 b\n  log 1 c')
        a, b, c = [('h', word, ()) for word in 'abc']
        self.same(fillings(made, ((None, 1, None),), 0, 1), ((a,), (b,), (c,)))
        self.same(fillings(made, ((None, 2, None),), 0, 1), ((a, b), (b, c)))
        self.same(fillings(made, ((None, 1, None),), 0, 1, end='over'), ((a,), (b,), (c,)))
        self.same(fillings(made, ((None, 1),), 0, 1, end='over'), ((c,),))

    wide = ('cell x 3\ncell y 3\ncell z 2\nhand h\n  ask z\n  if z = 0\n    ask x\n    ask y\n    log 1 u x y\n'
            '    ask x\n    ask z\n    log 1 u x z\n  else\n    ask {0}\n    log 1 v {0}\n    ask {0}\n    log 1 v {1}')

    def test_just_two_hundred(self):
        made = maker(self.wide.format('x', 'x.some'))
        self.assertEqual(len(fillings(made, ((2,),), 0, 0)), 16 * 12 + 4 * 2)
        self.told(TooMany, 200, fillings, maker(self.wide.format('z', 'z')), ((2,),), 0, 0)

    def test_many(self):
        made = maker('cell x 1\nhand h\n  while x = x\n    ask x\n    log 1 u x')
        for gap in range(1, 8):
            self.assertEqual(len(fillings(made, ((gap,),), 0, 0)), 2 ** gap)
        for gap in (8, 9):
            self.told(TooMany, 200, fillings, made, ((gap,),), 0, 0)
        self.assertEqual(len(fillings(made, ((9,), (('h', 'u', (0,)), ('h', 'u', (1,)), 7)), 1, 2)), 128)
        self.told(TooMany, 200, fillings, made, ((9,), (('h', 'u', (0,)), 8)), 1, 1)


class TestWrongValues(Case):
    sheet = ((GO, 2, None), (1,))

    def test_sheets(self):
        made = maker(TINY)
        for value in BAD_SHEETS:
            for deed in (fitting, shortest):
                self.told(BadSheet, value, deed, made, value)
                self.told(BadSheet, value, deed, made, value, end=5)
            for deed in (stands_at, fillings):
                self.told(BadSheet, value, deed, made, value, None, None, end=5)
            self.told(BadSheet, value, shows_none, made, value, None, end=5)
            self.told(BadSheet, value, shows_shortest, made, value, 1, None, end=5)

    def test_ends(self):
        made = maker(TINY)
        for value in BAD_ENDS:
            for deed in (fitting, shortest):
                self.told(BadEnd, value, deed, made, self.sheet, end=value)
                self.told(BadEnd, value, deed, *BEYOND, end=value)
            self.told(BadEnd, value, stands_at, made, self.sheet, 0, 0, end=value)
            self.told(BadEnd, value, fillings, made, self.sheet, 0, 1, end=value)
            self.told(BadEnd, value, fillings, *BEYOND, 0, 3, end=value)
            self.told(BadEnd, value, shows_none, made, self.sheet, (), end=value)
            self.told(BadEnd, value, shows_shortest, made, self.sheet, 1, (), end=value)

    def test_copies(self):
        made = maker(TINY)
        for value in (*ODD, 2, -1, True, False):
            if isinstance(value, bool) or value not in (0, 1):
                for deed in (stands_at, fillings):
                    self.told(NoItem, value, deed, made, self.sheet, value, 0)
                    self.told(NoItem, value, deed, made, self.sheet, value, None, end=5)
        self.told(NoItem, 1, stands_at, made, ((GO,),), 1, 0)

    def test_indexes(self):
        made = maker(TINY)
        for value in (*ODD, 4, -1, True, False):
            if isinstance(value, bool) or value not in (0, 1, 2, 3):
                for deed in (stands_at, fillings):
                    self.told(NoItem, value, deed, made, self.sheet, 0, value)
                    self.told(NoItem, value, deed, made, self.sheet, 0, value, end=5)
        self.told(NoItem, 2, stands_at, made, self.sheet, 1, 2)
        for index in (0, 1, 2, 3):
            self.assertIsInstance(stands_at(made, self.sheet, 0, index), tuple)

    def test_fillings_of_what_is_no_integer_gap(self):
        made = maker(TINY)
        for index in (0, 2, 3):
            self.told(NoItem, index, fillings, made, self.sheet, 0, index)
            self.told(NoItem, index, fillings, made, self.sheet, 0, index, end=5)
        self.told(NoItem, 1, fillings, made, self.sheet, 1, 1)
        self.told(NoItem, 0, fillings, made, ((),), 0, 0)

    def test_errors_ahead_of_too_many(self):
        made, sheet = BEYOND
        self.told(NoItem, 5, stands_at, made, sheet, 5, 0)
        self.told(NoItem, 20, stands_at, made, sheet, 0, 20)
        self.told(NoItem, 0, fillings, made, sheet, 0, 0)

    def test_long_values_may_be_passed_in_again(self):
        made, sheet = maker('cell x 3\nhand h\n  while x = x\n    ask x\n    log 1 u'), ((9,) * 12,)
        run, heights = shortest(made, sheet)
        self.same([len(run), len(heights)], [3 * 108, 12 * 108 + 6])
        self.assertIs(shows_shortest(made, sheet, len(run), heights), True)
        self.assertIs(fits(made, sheet, run), True)
        self.same([state(made, led(made, run)), led(made, run)[0]], ['open', ((2,),)])
        word, table = fitting(*JUST)
        self.assertIs(shows_none(*JUST, table), True)


if __name__ == '__main__':
    unittest.main()
