import unittest

from loggedruns.covers import cover, shows_cover
from loggedruns.errors import BadEnd, BadSheet, TooMany
from loggedruns.fitting import shows_none
from loggedruns.stands import first_stand
from tests.common import GATE, ODD, TINY, Case, maker

GO, HOT = ('h', 'go', ()), ('h', 'hot', ())
BAD_SHEETS = (*[value for value in ODD if value != ((), ())], ((1,),) * 3, ([],), ((0,),), ((True,),), ((None,) * 13,))
BAD_ENDS = (*[value for value in ODD if value is not None], 'done', 'stuck', 'fallen', ['over'], ('open',), 'overopen')

# The least covers have just 2000 and just 2001 members.
JUST = (maker('cell x 3\ncell y 1\nhand h\n  ask y\n  ask x\n  ask x\n  log 1 u\n  log 1 v\n  log 1 u\n  ask y\n'
              '  log 1 v\n  log 1 v\n  log 1 v'),
        ((None, 2, None, 1, 1, None, None, None, 1, None), (None, None, None, ('h', 'u', ()))))
BEYOND = (maker('cell x 3\ncell y 3\nhand h\n  log 1 u\n  log 1 v\n  ask x\n  ask y\n  log 1 u\n  ask x'),
          ((None, None, None, 2, 1, None, None, None, ('h', 'v', ()), ('h', 'u', ())),
           (None, 1, ('h', 'u', ()), None, 1, ('h', 'v', ()), 2, None, ('h', 'v', ()), 1, 2, 1)))


def stand(line, value):
    return (((line,) if line else (),), (value,), (), ((),), 0, 0, False)


class TestCover(Case):
    """TINY: lines 2 ask, 3 log go, 4 if, 5 log hot, 6 stop."""

    whole = ((stand(2, 0), ((0, 0),)), (stand(3, 0), ((0, 0),)), (stand(3, 1), ((0, 0),)), (stand(4, 0), ((1, 0),)),
             (stand(4, 1), ((1, 0),)), (stand(5, 1), ((1, 0),)), (stand(6, 0), ((1, 0),)), (stand(0, 0), ((1, 0),)))

    def setUp(self):
        self.made = maker(TINY)
        self.least = tuple(sorted(self.whole))

    def test_an_entry(self):
        self.same(cover(self.made, ((GO,),)), self.least)
        self.same(cover(self.made, ((None, HOT),))[0], (stand(0, 0), ((0, 0),)))

    def test_the_end_changes_nothing(self):
        for end in (None, 'over', 'open'):
            self.same(cover(self.made, ((GO,),), end=end), self.least)
        self.same(self.unchanged(cover, maker=self.made, sheet=((GO,),), end='over'), self.least)

    def test_nothing_read(self):
        self.same(cover(self.made, ((),)), tuple(sorted([(one, ((0, 0),)) for one, spot in self.whole
                                                         if spot == ((0, 0),)])))

    def test_passes_and_gaps(self):
        made = maker('hand h\n  log 1 u')
        first, last = (((1,),), (), (), ((),), 0, 0, False), (((),), (), (), ((),), 0, 0, False)
        self.same(cover(made, ((None,),)), ((last, ((0, 0),)), (last, ((1, 0),)), (first, ((0, 0),)),
                                            (first, ((1, 0),))))
        self.same(cover(made, ((2,),)), ((last, ((0, 1),)), (first, ((0, 0),))))
        self.same(cover(made, ((1,), (None,))),
                  ((last, ((1, 0), (0, 0))), (last, ((1, 0), (1, 0))), (first, ((0, 0), (0, 0))),
                   (first, ((0, 0), (1, 0)))))
        self.same(cover(made, ((), (None,))), ((first, ((0, 0), (0, 0))), (first, ((0, 0), (1, 0)))))

    def test_dropped_entries_are_not_taken(self):
        made = maker('hand h\n  log 1 u\n  log 1 v', every=2)
        spots = [spot for _, spot in cover(made, ((('h', 'u', ()),),))]
        self.same(sorted(spots), [((0, 0),), ((1, 0),), ((1, 0),)])

    def test_limit(self):
        self.assertEqual(len(cover(*JUST)), 2000)
        self.told(TooMany, 2000, cover, *BEYOND)
        self.told(TooMany, 2000, cover, *BEYOND, end='over')


class TestShows(Case):
    def setUp(self):
        self.made = maker(TINY)
        self.sheet = ((GO,),)
        self.least = cover(self.made, self.sheet)

    def yes(self, value):
        self.assertIs(shows_cover(self.made, self.sheet, value), True)

    def no(self, value):
        self.assertIs(shows_cover(self.made, self.sheet, value), False, value)

    def test_least(self):
        self.yes(self.least)
        for end in (None, 'over', 'open'):
            self.assertIs(shows_cover(maker=self.made, sheet=self.sheet, value=self.least, end=end), True)

    def test_of_another_sheet(self):
        self.assertIs(shows_cover(self.made, ((None,),), self.least), False)
        self.assertIs(shows_cover(self.made, ((GO, HOT),), self.least), False)
        # With HOT as the first item no entry is taken, so nothing more is needed.
        self.assertIs(shows_cover(self.made, ((HOT,),), self.least), True)
        self.assertIs(shows_cover(self.made, ((GO,), (GO,)), self.least), False)
        self.assertIs(shows_cover(maker(TINY, every=2), self.sheet, self.least), False)

    def test_one_thing_otherwise(self):
        for k in range(len(self.least)):
            pair = self.least[k]
            self.no(self.least[:k] + self.least[k + 1:])
            self.no(self.least[:k] + (pair,) + self.least[k:])
            self.no(self.least[:k] + (list(pair),) + self.least[k + 1:])
            self.no(self.least[:k] + ((list(pair[0]), pair[1]),) + self.least[k + 1:])
            self.no(self.least[:k] + ((pair[0], list(pair[1])),) + self.least[k + 1:])
            self.no(self.least[:k] + ((pair[0], (list(pair[1][0]),)),) + self.least[k + 1:])
            self.no(self.least[:k] + ((*pair, 0),) + self.least[k + 1:])
            self.no(self.least[:k] + (pair[:1],) + self.least[k + 1:])
            self.no(self.least[:k] + ((pair[1], pair[0]),) + self.least[k + 1:])
            for other in range(k):
                swapped = list(self.least)
                swapped[k], swapped[other] = swapped[other], swapped[k]
                self.no(tuple(swapped))
        self.no(list(self.least))
        self.no((*self.least, None))
        self.no(())

    def test_bools_and_integers(self):
        for k in range(len(self.least)):
            one, spot = self.least[k]
            for changed in ((one[:6] + (0,), spot), ((one[0], (bool(one[1][0]),), *one[2:]), spot),
                            ((*one[:4], False, *one[5:]), spot), ((*one[:5], False, one[6]), spot),
                            (one, ((bool(spot[0][0]), 0),)), (one, ((spot[0][0], False),))):
                self.assertEqual(changed, self.least[k])
                self.no(self.least[:k] + (changed,) + self.least[k + 1:])

    def test_no_forms(self):
        for bad in ((stand(7, 0), ((1, 0),)), (stand(1, 0), ((1, 0),)), (stand(6, 2), ((1, 0),)),
                    (stand(6, 0), ((2, 0),)), (stand(6, 0), ((-1, 0),)), (stand(6, 0), ((1, 1),)),
                    (stand(6, 0), ((0, 1),)), (stand(6, 0), ((1, 0), (1, 0))), (stand(6, 0), ()),
                    (stand(6, 0), ((1,),)), (stand(6, 0), ((1, 0, 0),)), (stand(6, 0), (1, 0)),
                    (stand(6, 0), ((1, None),)), (stand(6, 0), None), (None, ((1, 0),)), (1, 2), (), [], None):
            self.no((*self.least, bad))
            self.no((bad, *self.least))

    def test_any_value(self):
        for value in ODD:
            self.no(value)
            self.no((value,))
            self.no(((value, value),))

    def test_greater_tables(self):
        # The value 1 at the line of stop is a stand that runs come to, but not at the spot (0, 0).
        more = ((stand(6, 1), ((0, 0),)), (stand(0, 1), ((0, 0),)))
        self.no(tuple(sorted([*self.least, more[0]])))
        self.yes(tuple(sorted([*self.least, more[1]])))
        self.yes(tuple(sorted([*self.least, *more])))
        # A stand that no run comes to.
        self.yes(tuple(sorted([*self.least, (stand(0, 1), ((1, 0),)), (stand(5, 0), ((1, 0),))])))
        # There its entry cannot be taken, so nothing is behind it.
        self.yes(tuple(sorted([*self.least, (stand(5, 0), ((0, 0),))])))

    def test_greater_than_the_limit(self):
        made, sheet = JUST
        least = cover(made, sheet)
        last = (((),), (3, 0), (), ((),), 0, 0, False)
        self.assertNotIn((last, ((0, 0), (4, 0))), least)
        table = tuple(sorted({*least, *[(last, ((k, 0), (4, 0))) for k in (0, 1)]}))
        self.assertGreater(len(table), 2000)
        self.assertIs(shows_cover(made, sheet, table), True)
        self.assertIs(shows_cover(*BEYOND, least), False)
        self.assertIs(shows_none(*BEYOND, least), False)

    def test_parts_of_gaps(self):
        made = maker('hand h\n  log 1 u')
        sheet = ((3,),)
        least = cover(made, sheet)
        last = least[0][0]
        for part, fine in ((0, True), (2, True), (3, False), (-1, False), (True, False)):
            self.assertIs(shows_cover(made, sheet, tuple(sorted([*least, (last, ((0, part),))]))), fine)
        self.assertIs(shows_cover(made, sheet, (*least[:1], (last, ((1, 0),)), *least[1:])), True)
        self.assertIs(shows_cover(made, sheet, (*least[:1], (last, ((1, 1),)), *least[1:])), False)

    def test_passes_are_needed(self):
        made = maker('hand h\n  stop')
        least = cover(made, ((None, None),))
        self.assertEqual(len(least), 6)
        for k in range(6):
            self.assertIs(shows_cover(made, ((None, None),), least[:k] + least[k + 1:]), False)

    def test_the_first_pair_is_needed(self):
        last = (((),), (0,), (), ((),), 0, 0, False)
        self.no(((last, ((1, 0),)),))
        self.assertIn((first_stand(self.made), ((0, 0),)), self.least)


class TestWrongValues(Case):
    def test_sheets_and_ends(self):
        gate = maker(GATE)
        for value in BAD_SHEETS:
            self.told(BadSheet, value, cover, gate, value)
            self.told(BadSheet, value, cover, gate, value, end=1)
            self.told(BadSheet, value, shows_cover, gate, value, ())
            self.told(BadSheet, value, shows_cover, gate, value, [], end='')
        for value in BAD_ENDS:
            self.told(BadEnd, value, cover, gate, ((),), end=value)
            self.told(BadEnd, value, shows_cover, gate, ((),), (), end=value)
            self.told(BadEnd, value, cover, *BEYOND, end=value)

    def test_end_by_name_only(self):
        with self.assertRaises(TypeError):
            cover(maker(GATE), ((),), 'open')
        with self.assertRaises(TypeError):
            shows_cover(maker(GATE), ((),), (), 'open')


if __name__ == '__main__':
    unittest.main()
