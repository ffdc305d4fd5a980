import unittest

from loggedruns.answers import answer
from loggedruns.covers import cover
from loggedruns.errors import BadEnd, BadQuestion, BadSheet, NoGrounds, TooMany
from loggedruns.grounds import grounds, shows_grounds
from loggedruns.questions import is_question
from tests import generate, plain
from tests.common import GATE, ODD, TINY, Case, maker
from tests.test_covers import BAD_ENDS, BAD_SHEETS, BEYOND, JUST
from tests.test_often import labelled

GO, HOT, DONE = ('h', 'go', ()), ('h', 'hot', ()), ('one', 'done', ())
ENDS = (None, 'over', 'open')
ASKED = ('asked', 'a', 1)


def places(sheet, end):
    found = [(copy, index) for copy in range(len(sheet)) for index in range(len(sheet[copy]))
             if sheet[copy][index] is not None]
    return found if end is None else [*found, (len(sheet), 0)]


def left_of(sheet, end, left):
    """The sheet and the end with what is left."""
    found = tuple(tuple(item if (k, at) in left else None for at, item in enumerate(copy)) for k, copy in enumerate(sheet))
    return found, end if (len(sheet), 0) in left else None


class TestGrounds(Case):
    def grounds(self, made, sheet, question, end=None):
        """What is left, with the word; both are looked at, and that none can be left out."""
        left, word, table = grounds(made, sheet, question, end=end)
        self.same(left, tuple(sorted(left)))
        self.assertIs(shows_grounds(maker=made, sheet=sheet, question=question, value=(left, word, table), end=end), True)
        less, other = left_of(sheet, end, left)
        self.same(answer(made, less, question, end=other), (word, table))
        for place in left:
            less, other = left_of(sheet, end, [one for one in left if one != place])
            self.same(answer(made, less, question, end=other)[0], 'sometimes')
        return left, word

    def test_items_that_stay(self):
        made = maker(TINY)
        for sheet, end, expected in (
                (((GO, HOT),), None, (((0, 1),), 'always')), (((GO, HOT),), 'over', (((0, 1),), 'always')),
                (((GO,),), 'over', (((0, 0), (1, 0)), 'never')), (((1,),), 'over', (((0, 0), (1, 0)), 'never')),
                (((2,),), None, (((0, 0),), 'always')), (((1, 1),), None, (((0, 0), (0, 1)), 'always')),
                (((1, None, HOT),), None, (((0, 2),), 'always')), (((None, HOT, None),), 'over', (((0, 1),), 'always')),
                (((GO, ('h', None, None)),), None, (((0, 0), (0, 1)), 'always'))):
            self.same(self.grounds(made, sheet, ASKED, end), expected)

    def test_the_end_goes_last(self):
        made = maker(TINY)
        # Either the end is enough, or the item is: the item is tried first.
        self.same(self.grounds(made, ((GO,),), ('did', 'a', 1), 'over'), (((1, 0),), 'always'))
        self.same(self.grounds(made, ((GO,),), ('did', 'a', 1), None), (((0, 0),), 'always'))
        self.same(self.grounds(made, ((GO,), (1,)), ('did', 'a', 1), 'over'), (((2, 0),), 'always'))
        self.same(self.grounds(made, ((None,),), ('ended', 'open'), 'open'), (((1, 0),), 'always'))
        self.same(self.grounds(made, ((),), ('did', 'b', 1), 'open'), ((), 'never'))
        self.same(self.grounds(made, ((),), ('did', 'b', 1), None), ((), 'never'))

    def test_nothing_stays(self):
        made = maker(TINY)
        for end in ENDS:
            self.same(self.grounds(made, ((GO, HOT), (1, None)), ('was', 'x', 0), end), ((), 'always'))
            self.same(self.grounds(made, ((GO, HOT),), ('fell', 1), end), ((), 'never'))

    def test_two_copies(self):
        made = maker(TINY)
        # The first copy is tried first, so the second one keeps what is enough.
        self.same(self.grounds(made, ((GO, HOT), (GO, HOT)), ASKED), (((1, 1),), 'always'))
        self.same(self.grounds(made, ((GO, HOT), (GO, None)), ASKED), (((0, 1),), 'always'))
        self.same(self.grounds(made, ((None, 1), (1, None)), ('did', 'a', 1)), (((1, 0),), 'always'))
        # What one copy lacks the other one has: the copies are read at once.
        made = maker('cell x 1\nhand h\n  a: ask x\n  log 1 u\n  log 1 v x\n  log 1 w')
        u, w = ('h', 'u', ()), ('h', 'w', ())
        self.same(self.grounds(made, ((u, None, w), (1, ('h', 'v', (1,)), 1)), ASKED), (((1, 1),), 'always'))
        self.same(self.grounds(made, ((u, ('h', 'v', (None,)), w), (None, ('h', 'v', (0,)), None)), ASKED),
                  (((1, 1),), 'never'))

    def test_gaps_are_items_and_gaps_none_are_not(self):
        made = maker('cell x 1\nhand h\n  a: ask x\n  log 1 u\n  if x = 1\n    log 1 u')
        self.same(self.grounds(made, ((2,),), ASKED), (((0, 0),), 'always'))
        self.same(self.grounds(made, ((1, None, 1),), ASKED), (((0, 0), (0, 2)), 'always'))
        self.same(self.grounds(made, ((None, 2, None),), ASKED), (((0, 1),), 'always'))
        self.same(self.grounds(made, ((1,),), ASKED, 'over'), (((0, 0), (1, 0)), 'never'))

    def test_indexes_stay_those_of_the_items(self):
        made = maker('cell x 2\nhand h\n  a: ask x\n  log 1 u\n  log 1 v x\n  log 1 w x.odd')
        sheet = ((('h', 'u', ()), ('h', 'v', (None,)), ('h', 'w', (1,))),)
        self.same(self.grounds(made, sheet, ASKED), (((0, 2),), 'always'))
        sheet = ((('h', 'u', ()), ('h', 'v', (2,)), ('h', 'w', (0,))),)
        self.same(self.grounds(made, sheet, ASKED), (((0, 2),), 'never'))
        self.same(self.grounds(made, sheet, ('asked', 'a', 2)), (((0, 1),), 'always'))

    def test_no_grounds(self):
        made = maker(TINY)
        for sheet, question, end, word in ((((GO,),), ASKED, None, 'sometimes'), (((HOT,),), ASKED, None, 'none'),
                                           (((),), ASKED, 'over', 'none'), (((None,),), ('did', 'a', 1), None, 'sometimes'),
                                           (((3,),), ('fell', 1), 'open', 'none')):
            self.told(NoGrounds, word, grounds, made, sheet, question, end=end)

    def test_random(self):
        found = {0: 0, 1: 0, 2: 0}
        for rng, made, runs in generate.makers(23, 150, 60):
            question = generate.question(rng, made.program)
            if not is_question(made.program, question):
                continue
            log = [entry for entry in rng.choice(runs)[2] if entry is not None]
            sheet, end = generate.sheet(rng, log), rng.choice(ENDS)

            def word(less, other):
                return plain.word([plain.is_true(made, question, run, stands)
                                   for run, stands in plain.fitted(made, runs, less, other)])

            whole = word(sheet, end)
            if whole in ('none', 'sometimes'):
                self.told(NoGrounds, whole, grounds, made, sheet, question, end=end)
                continue
            left = places(sheet, end)
            for place in places(sheet, end):
                fewer = [one for one in left if one != place]
                if word(*left_of(sheet, end, fewer)) == whole:
                    left = fewer
            self.same(self.grounds(made, sheet, question, end), (tuple(left), whole))
            found[min(len(left), 2)] += 1
        self.assertGreater(found[0], 30)
        self.assertGreater(found[1], 5)

    def test_limit(self):
        just, sheet = labelled(JUST, 'ask y')
        self.told(NoGrounds, 'none', grounds, just, sheet, ('fell', 1))
        self.told(TooMany, 2000, grounds, just, sheet, ('asked', 'a', 1))
        beyond, sheet = labelled(BEYOND, 'log 1 u')
        self.told(TooMany, 2000, grounds, beyond, sheet, ('fell', 1))
        self.told_in_sequence(grounds, {'maker': beyond, 'sheet': sheet, 'question': ('fell', 1), 'end': None},
                              [('sheet', 1, BadSheet), ('question', ('fell', 0), BadQuestion), ('end', 1, BadEnd)])

    def test_the_limit_is_of_the_sheet_as_it_came(self):
        """With nothing but gaps None there are more than 2000 members."""
        made = maker('cell x 3\ncell y 3\nhand h\n  a: ask x\n  ask y\n  log 1 u\n  b: log 1 v x y\n  ask x\n  ask y\n  log 1 w x y')
        sheet = ((('h', 'u', ()), ('h', 'v', (1, 1)), ('h', 'w', (1, 1)), *(None,) * 9), (None,) * 12)
        question = ('or', ('was', 'x', 0), ('was', 'y', 3))
        left, word, table = grounds(made, sheet, question)
        self.same([left, word], [(), 'always'])
        self.assertGreater(len(table), 2000)
        self.assertIs(shows_grounds(made, sheet, question, (left, word, table)), True)


class TestShows(Case):
    def setUp(self):
        self.made = maker(TINY)
        self.sheet = ((GO, None, HOT), (1, 1))

    def shows(self, *value, sheet=None, question=ASKED, end=None):
        return shows_grounds(self.made, sheet or self.sheet, question, value, end=end)

    def table(self, left, end=None, sheet=None, question=ASKED):
        less, other = left_of(sheet or self.sheet, end, left)
        return answer(self.made, less, question, end=other)

    def test_any_left_that_is_enough(self):
        whole = places(self.sheet, 'over')
        self.same(whole, [(0, 0), (0, 2), (1, 0), (1, 1), (2, 0)])
        enough = 0
        for many in range(32):
            left = tuple([place for k, place in enumerate(whole) if many >> k & 1])
            word, *shown = self.table(left, 'over')
            if word == 'always':
                enough += 1
                self.assertIs(self.shows(left, word, shown[0], end='over'), True)
                self.assertIs(self.shows(left, 'never', shown[0], end='over'), False)
                self.assertIs(self.shows(left, word, shown[0]), (2, 0) not in left)
                self.assertIs(self.shows(tuple(reversed(left)), word, shown[0], end='over'), len(left) == 1)
                self.assertIs(self.shows(list(left), word, shown[0], end='over'), False)
                self.assertIs(self.shows((*left, left[0]), word, shown[0], end='over'), False)
            else:
                self.same(word, 'sometimes')
                less, _ = left_of(self.sheet, 'over', left)
                pairs = tuple([(*pair, (0,)) for pair in cover(self.made, less)])
                for other in ('always', 'never', 'sometimes', 'none'):
                    self.assertIs(self.shows(left, other, pairs, end='over'), False)
        # All with HOT, and those in which two entries are told without it.
        self.same(enough, 16 + 8 // 2)

    def test_a_table_of_another_sheet(self):
        _, table = self.table([(0, 2)])
        self.assertIs(self.shows(((0, 2),), 'always', table), True)
        self.assertIs(self.shows(((0, 0), (0, 2)), 'always', table), True)
        _, less = self.table([(0, 0), (0, 2)])
        self.assertIs(self.shows(((0, 0), (0, 2)), 'always', less), True)
        self.assertIs(self.shows(((0, 2),), 'always', less), False)
        for k in range(len(table)):
            self.assertIs(self.shows(((0, 2),), 'always', table[:k] + table[k + 1:]), False)

    def test_places_that_there_are_not(self):
        _, table = self.table([(0, 2)])
        for left in (((0, 1), (0, 2)), ((0, 2), (0, 3)), ((-1, 0), (0, 2)), ((0, 2), (1, 2)), ((0, 2), (2, 0)), ((0, 2), (3, 0)),
                     ((0, 2), None), ((0, 2, 0),), ((0,), (0, 2)), ((False, 2),), ([0, 2],), (2,), (None,), ('ab',), None,
                     ((0, 2), (0, 2)), ((0, 2), (2, 1)), ((0, '2'),), ((0, None),), (((0,), 2),), (((0, 2),),)):
            self.assertIs(self.shows(left, 'always', table), False)
        self.assertIs(self.shows(((0, 2),), 'always', table), True)
        self.assertIs(self.shows(((0, 2), (2, 0)), 'always', table, end='over'), True)
        self.assertIs(self.shows(((0, 2), (2, 1)), 'always', table, end='over'), False)
        self.assertIs(self.shows(((0, 2), (2, False)), 'always', table, end='over'), False)

    def test_where_no_run_fits(self):
        sheet = ((HOT, GO),)
        left = ((0, 0), (0, 1))
        pairs = tuple([(*pair, (0,)) for pair in cover(self.made, sheet)])
        marked = tuple([(one, spot, (1 if one[1] == (1,) else 0,)) for one, spot in cover(self.made, sheet)])
        self.assertIs(self.shows(left, 'always', pairs, sheet=sheet), False)
        for word in ('always', 'never'):
            self.assertIs(self.shows(left, word, marked, sheet=sheet), True)
        for word in ('none', 'sometimes', None, 1):
            self.assertIs(self.shows(left, word, marked, sheet=sheet), False)
        self.assertIs(self.shows(left, 'none', cover(self.made, sheet), sheet=sheet), False)

    def test_any_value(self):
        _, table = self.table([(0, 2)])
        for value in (*ODD, ('always', table), (((0, 2),), 'always'), (((0, 2),), 'always', table, table),
                      [((0, 2),), 'always', table], ('always', ((0, 2),), table), (((0, 2),), table, 'always')):
            self.assertIs(shows_grounds(self.made, self.sheet, ASKED, value), False)
        for value in ODD:
            self.assertIs(self.shows(value, 'always', table), False)
            self.assertIs(self.shows(((0, 2),), value, table), False)
            self.assertIs(self.shows(((0, 2),), 'always', value), False)


class TestWrongValues(Case):
    def test_in_sequence(self):
        made = maker(GATE)
        question = ('asked', 'a', 0)
        for value in BAD_SHEETS:
            self.told(BadSheet, value, grounds, made, value, question)
        for value in (*ODD, ('asked', 'a', 3)):
            self.told(BadQuestion, value, grounds, made, ((DONE,),), value)
            self.told(BadQuestion, value, shows_grounds, made, ((DONE,),), value, value)
        for value in BAD_ENDS:
            self.told(BadEnd, value, grounds, made, ((DONE,),), question, end=value)
        wrong = [('sheet', [], BadSheet), ('question', (), BadQuestion), ('end', 'none', BadEnd)]
        good = {'maker': made, 'sheet': ((DONE,),), 'question': question, 'end': None}
        for change in ({}, {'question': ('did', 'd', 1)}, {'sheet': ((DONE, DONE),)}):
            self.told_in_sequence(grounds, {**good, **change}, wrong)
            self.told_in_sequence(shows_grounds, {**good, **change, 'value': None}, wrong)

    def test_nothing_is_changed(self):
        made = maker(GATE)
        told = self.unchanged(grounds, made, ((None, DONE),), ('did', 'c', 1))
        self.same(told[:2], (((0, 1),), 'always'))
        self.unchanged(shows_grounds, made, ((None, DONE),), ('did', 'c', 1), told)


if __name__ == '__main__':
    unittest.main()
