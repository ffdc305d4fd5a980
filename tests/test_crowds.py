import random
import unittest

from loggedruns.answers import answer
from loggedruns.covers import cover
from loggedruns.crowds import answer_of, fits_woven, shows_answer_of, shows_why, whose, why, woven
from loggedruns.errors import BadCrowd, BadEnd, BadQuestion, BadSheet, NoItem, NoNumber, TooMany
from loggedruns.fitting import fitting
from loggedruns.programs import Program
from loggedruns.questions import is_question, judge
from loggedruns.sheets import fits
from tests import brute, generate, plaincrowd
from tests.common import GATE, ODD, TINY, Case, do, maker, near, standing, write
from tests.test_covers import BAD_ENDS, BAD_SHEETS

ENDS = (None, 'over', 'open')
U, V = maker('hand h\n  a: log 1 u', names=False), maker('hand k\n  a: log 1 v', names=False)
TORN = (((None, None, ()), (None, 'u', ())),)


class CrowdCase(Case):
    def woven(self, crowd, sheet, end=None):
        told = self.unchanged(woven, crowd=crowd, sheet=sheet, end=end)
        if told[0] == 'none':
            self.assertTrue(plaincrowd.is_cover(crowd, sheet, told[1]))
            self.same(told[1], plaincrowd.least(plaincrowd.first_pair(crowd, sheet), lambda pair: [
                there for _, _, there in plaincrowd.targets(crowd, sheet, pair)]))
        else:
            self.assertIs(fits_woven(crowd=crowd, sheet=sheet, value=told[1], end=end), True)
        return told[0]

    def whose(self, crowd, sheet, copy, index, end=None):
        """The numbers that are told; why, for each number, is looked at."""
        told = self.unchanged(whose, crowd=crowd, sheet=sheet, copy=copy, index=index, end=end)
        for number in range(len(crowd)):
            shown = self.unchanged(why, crowd=crowd, sheet=sheet, copy=copy, index=index, number=number, end=end)
            self.same(shown[0], 'may' if number in told else 'never')
            self.assertIs(shows_why(crowd=crowd, sheet=sheet, copy=copy, index=index, number=number, value=shown, end=end), True)
            if shown[0] == 'may':
                self.assertIs(fits_woven(crowd, sheet, shown[1], end=end), True)
            else:
                self.assertTrue(plaincrowd.is_cover(crowd, sheet, shown[1], (copy, index, number)))
                self.assertFalse([pair for pair in shown[1] if plaincrowd.closes(crowd, sheet, pair, end)])
        return told

    def answer(self, crowd, sheet, number, question, end=None):
        told = self.unchanged(answer_of, crowd=crowd, sheet=sheet, number=number, question=question, end=end)
        self.assertIs(shows_answer_of(crowd=crowd, sheet=sheet, number=number, question=question, value=told, end=end), True)
        if told[0] == 'sometimes':
            for weaving, truth in zip(told[1:], (True, False)):
                self.assertIs(fits_woven(crowd, sheet, weaving, end=end), True)
                self.assertIs(judge(crowd[number], question, weaving[0][number]), truth)
            self.assertIs(shows_answer_of(crowd, sheet, number, question, ('sometimes', told[2], told[1]), end=end), False)
        elif told[0] != 'none':
            self.same(told[1], plaincrowd.least(
                plaincrowd.first_minded(crowd, sheet, number, question),
                lambda member: plaincrowd.minded_targets(crowd, sheet, member, number, question)))
        return told[0]


class TestExample(CrowdCase):
    def test_two(self):
        one, other = maker('hand h\n  log 1 u', names=False), maker('hand k\n  log 1 v', names=False)
        self.same(whose((one, other), TORN, 0, 0), (1,))


class TestCrowds(CrowdCase):
    def test_two(self):
        for crowd, expected in (((U, V), ((1,), (0,))), ((V, U), ((0,), (1,))), ((U, U), ((0, 1), (0, 1)))):
            self.same([self.whose(crowd, TORN, 0, index) for index in (0, 1)], list(expected))
        self.same(self.whose((U,), TORN, 0, 0), ())
        self.same(self.whose((U, V), ((None, (None, 'u', ()), None),), 0, 1), (0,))
        self.same(self.whose((U, U), (((None, 'v', ()),),), 0, 0), ())

    def test_ends(self):
        for sheet, end, expected in (((),), None, 'weaving'), (((),), 'over', 'none'), (((1,),), 'over', 'none'), \
                (((1,),), 'open', 'weaving'), (((2,),), 'open', 'none'), (((2,),), 'over', 'weaving'), (((3,),), None, 'none'), \
                ((((None, 'u', ()),),), 'open', 'weaving'):
            self.same(self.woven((U, V), sheet, end), expected)
        # It is over only if both runs are.
        done = maker('hand h\n  a: stop')
        self.same(self.answer((U, done), ((1,),), 1, ('did', 'a', 1), 'over'), 'always')
        self.same(self.answer((U, done), ((1,),), 1, ('did', 'a', 1), 'open'), 'never')
        self.same(self.answer((U, done), ((1,),), 1, ('did', 'a', 1)), 'sometimes')
        self.same(self.answer((U, done), ((2,),), 1, ('did', 'a', 1)), 'none')

    def test_weavings(self):
        for value, good in (((((do(0),), (do(0),)), (1, 0)), True), ((((do(0),), (do(0),)), (0, 1)), False),
                            ((((do(0),), ()), (0,)), False), ((((do(0),), (do(0),)), (1, 0, 0)), False),
                            ((((do(0),), (do(0),)), (1,)), False), ((((do(0),), (do(0),)), [1, 0]), False),
                            ((((do(0),), (do(0),)), (True, 0)), False), (([(do(0),), (do(0),)], (1, 0)), False),
                            ((((do(0),), (do(0),), ()), (1, 0)), False), ((((do(0),), (do(1),)), (1, 0)), False),
                            ((((do(0),), (do(0),)), (1, 0), ()), False), ((((do(0),), (do(0),)), (2, 0)), False),
                            ((((do(0),),), (0,)), False)):
            self.assertIs(self.unchanged(fits_woven, (U, V), TORN, value), good)
        for value in ODD:
            for wrong in (value, (value, (1, 0)), (((do(0),), (do(0),)), value), ((value, (do(0),)), (1, 0)), (((do(0),), (do(0),)), (value, 0))):
                good = strange = wrong == (((do(0),), (do(0),)), (1, 0)) and value is not True
                self.assertIs(fits_woven((U, V), TORN, wrong), good if strange else False)

    def test_one_maker(self):
        for made, sheet in ((maker(GATE), ((('one', 'done', ()),),)), (maker(TINY), ((('h', 'go', ()), None),)),
                            (maker(TINY), ((3,),)), (maker(TINY), ((None,), (1, None)))):
            for end in ENDS:
                word, shown = woven((made,), sheet, end=end)
                single, _ = fitting(made, sheet, end=end)
                self.same(word, 'weaving' if single == 'run' else 'none')
                if word == 'none':
                    self.same(shown, tuple([((stand,), spot) for stand, spot in cover(made, sheet)]))
                else:
                    self.assertIs(fits(made, sheet, shown[0][0], end=end), True)
                    self.same(shown[1], (0,) * len(shown[1]))
                for question in (('did', 'b', 1), ('asked', 'a', 1), ('is', 'x', 0), ('ended', 'done')):
                    told, own = answer_of((made,), sheet, 0, question, end=end), answer(made, sheet, question, end=end)
                    self.same(self.answer((made,), sheet, 0, question, end), own[0])
                    if own[0] in ('always', 'never'):
                        self.same(told[1], tuple([((stand,), spot, memory) for stand, spot, memory in own[1]]))

    def test_random(self):
        words = {word: 0 for word in ('none', 'always', 'never', 'sometimes')}
        told = {(): 0, (0,): 0, (1,): 0, (0, 1): 0}
        for rng, one, runs in generate.makers(71, 260, 30):
            crowd, known = self.crowd(rng, one, runs)
            weavings = plaincrowd.Weavings(crowd, known)
            sheet = self.sheet(rng, crowd, known)
            places = [(copy, index) for copy in range(len(sheet)) for index, item in enumerate(sheet[copy])
                      if isinstance(item, tuple)]
            number = rng.randrange(len(crowd))
            question = generate.question(rng, crowd[number].program)
            end = rng.choice(ENDS)
            self.same(self.woven(crowd, sheet, end), 'weaving' if weavings.fitting(sheet, end) else 'none')
            for copy, index in places[:3]:
                takers = weavings.takers(sheet, copy, index, end)
                self.same(self.whose(crowd, sheet, copy, index, end), takers)
                told[takers] += 1
            if is_question(crowd[number].program, question):
                word = weavings.word(sheet, number, question, end)
                self.same(self.answer(crowd, sheet, number, question, end), word)
                words[word] += 1
        self.assertGreater(min(words.values()), 3, words)
        self.assertGreater(min(told.values()), 3, told)

    def crowd(self, rng, one, runs):
        """One maker or two, perhaps the same, with their runs."""
        if rng.random() < 0.15:
            return (one,), (runs,)
        if rng.random() < 0.3:
            return (one, one), (runs, runs)
        while True:
            lines = [generate.made, generate.talker][rng.randrange(2)](rng).program.text
            other = generate.labelled(rng, maker(lines.replace('  a: ', '  ').replace('  b: ', '  ').replace('  c: ', '  ')
                                                 .replace('  d: ', '  ').replace('  e: ', '  ').replace('  f: ', '  '),
                                                 names=one.recorder.names))
            found = brute.all_runs(other, 30)
            if found is not None and max(len(plaincrowd.got(run[2])) for run in found) < 4:
                return (one, other), (runs, found)

    def sheet(self, rng, crowd, known):
        """A damaged copy, or two, of what a weaving wrote."""
        logs = [plaincrowd.got(rng.choice(runs)[2]) for runs in known]
        numbers = [number for number, log in enumerate(logs) for _ in log]
        rng.shuffle(numbers)
        return generate.sheet(rng, list(plaincrowd.log_of(logs, numbers)))

    def test_all_weavings(self):
        """Each weaving is judged as the document's words tell."""
        for rng, one, runs in generate.makers(72, 25, 12):
            crowd, known = self.crowd(rng, one, runs)
            weavings = plaincrowd.Weavings(crowd, known)
            sheet, end = self.sheet(rng, crowd, known), rng.choice(ENDS)
            every = plaincrowd.Weavings(crowd, known).fitting(((None,),), None)
            good = [(runs, numbers) for runs, numbers, _, _ in weavings.fitting(sheet, end)]
            for runs, numbers, _, _ in rng.sample(every, min(60, len(every))):
                self.assertIs(fits_woven(crowd, sheet, (runs, numbers), end=end), (runs, numbers) in good)
            places = [(0, index) for index, item in enumerate(sheet[0]) if isinstance(item, tuple)]
            for copy, index in places[:1]:
                for runs, numbers, log, _ in weavings.fitting(sheet, end)[:40]:
                    for number in range(len(crowd)):
                        self.assertIs(shows_why(crowd, sheet, copy, index, number, ('may', (runs, numbers)), end=end),
                                      number in weavings.takers_of(sheet, copy, index, numbers, log))


class TestShows(Case):
    def test_why(self):
        rng = random.Random(73)
        found = {True: 0, False: 0}
        for _, one, _ in generate.makers(74, 12, 20, generate.talker):
            other = generate.talker(rng)
            crowd = (one, other)
            sheet = (((None, None, None), (None, rng.choice('uv'), None)),)
            for number in (0, 1):
                only = (0, 1, number)
                word, value = why(crowd, sheet, 0, 1, number)
                covered = woven(crowd, sheet, end='over')
                for table in ([value] if word == 'never' else []) + ([covered[1]] if covered[0] == 'none' else []):
                    if len(table) < 60:
                        wrong = [table[:k] + table[k + 1:] for k in range(len(table))]
                        wrong += near(table, rng, 60)
                        for other_table in (table, *wrong):
                            good = plaincrowd.is_cover(crowd, sheet, other_table, only) and not [
                                pair for pair in other_table if plaincrowd.closes(crowd, sheet, pair, None)]
                            self.assertIs(shows_why(crowd, sheet, 0, 1, number, ('never', other_table)), good)
                            found[good] += 1
        self.assertGreater(min(found.values()), 15, found)

    def test_why_by_hand(self):
        """U and V: the first entry, of which only v can be, and then u."""
        never, table = why((U, V), TORN, 0, 0, 0)
        whole = plaincrowd.least(plaincrowd.first_pair((U, V), TORN), lambda pair: [
            there for _, _, there in plaincrowd.targets((U, V), TORN, pair)])
        self.same(never, 'never')
        self.assertGreater(len(whole), len(table))
        self.assertIs(shows_why((U, V), TORN, 0, 0, 0, ('never', table)), True)
        # A cover with all steps has a pair that closes.
        self.assertIs(shows_why((U, V), TORN, 0, 0, 0, ('never', whole)), False)
        self.assertIs(shows_why((U, V), TORN, 0, 0, 0, ('never', whole), end='open'), True)
        self.assertIs(shows_why((U, V), TORN, 0, 0, 1, ('never', table)), False)
        self.assertIs(shows_why((U, V), TORN, 0, 0, 1, ('never', whole)), False)
        # With more steps followed than need be, as long as none closes.
        none = (((None, None, ()), (None, 'u', ()), (None, 'u', ())),)
        whole = woven((U, V), none)[1]
        self.assertIs(shows_why((U, V), none, 0, 0, 0, ('never', whole)), True)
        self.assertIs(shows_why((U, V), none, 0, 0, 1, ('never', whole)), True)
        self.assertIs(shows_why((U, V), none, 0, 0, 0, ('never', why((U, V), none, 0, 0, 0)[1])), True)
        for value in ODD:
            for wrong in (value, (never, value), (value, table), ('may', value), (never, (value, *table)), (never, table, value)):
                self.assertIs(shows_why((U, V), TORN, 0, 0, 0, wrong), False)
        weaving = (((do(0),), (do(0),)), (1, 0))
        for number, good in ((1, True), (0, False)):
            self.assertIs(shows_why((U, V), TORN, 0, 0, number, ('may', weaving)), good)
            self.assertIs(shows_why((U, V), TORN, 0, 1, number, ('may', weaving)), not good)
            self.assertIs(shows_why((U, V), TORN, 0, 0, number, ('never', weaving)), False)
            self.assertIs(shows_why((U, V), TORN, 0, 0, number, ('may', weaving), end='open'), False)

    def test_some_way_of_taking_is_enough(self):
        """The same log is taken in several ways: in one of them the item is this one's, in another one not."""
        crowd, sheet = (U, U), ((None, (None, 'u', ()), None),)
        weaving = (((do(0),), (do(0),)), (0, 1))
        for number in (0, 1):
            self.assertIs(shows_why(crowd, sheet, 0, 1, number, ('may', weaving)), True)
        # In two copies it is the other one that tells.
        sheet = ((None, (None, 'u', ()), None), ((None, 'u', ()), 1))
        self.same(whose(crowd, sheet, 1, 0), (0, 1))
        for number in (0, 1):
            self.assertIs(shows_why(crowd, sheet, 1, 0, number, ('may', weaving)), number == 0)

    def test_answer_of(self):
        rng = random.Random(75)
        found = {True: 0, False: 0}
        for _, one, runs in generate.makers(76, 25, 12):
            crowd = (one, U) if rng.random() < 0.7 else (one,)
            log = plaincrowd.got(rng.choice(runs)[2])
            sheet = generate.sheet(rng, [*log, *([(None, 'u', ())] if len(crowd) > 1 else [])])
            question, end = generate.question(rng, one.program), rng.choice(ENDS)
            if not is_question(one.program, question):
                continue
            told = answer_of(crowd, sheet, 0, question, end=end)
            if told[0] == 'sometimes' or len(told[1]) > 60:
                continue
            values = [(word, table) for word in ('always', 'never', 'none') for table in (
                told[1], tuple(sorted({member[:2] for member in told[1]})))]
            values += [(told[0], told[1][:k] + told[1][k + 1:]) for k in range(len(told[1]))] + near(told, rng, 60)
            for value in values:
                good = isinstance(value, tuple) and len(value) == 2 and isinstance(value[0], str)
                if good and value[0] == 'none':
                    good = plaincrowd.is_cover(crowd, sheet, value[1]) and not [
                        pair for pair in value[1] if plaincrowd.closes(crowd, sheet, pair, end)]
                elif good:
                    good = value[0] in ('always', 'never') and plaincrowd.shows_sure(
                        crowd, sheet, 0, question, value[1], end, value[0] == 'always')
                self.assertIs(shows_answer_of(crowd, sheet, 0, question, value, end=end), good)
                found[good] += 1
        self.assertGreater(min(found.values()), 40, found)

    def test_sometimes(self):
        crowd, sheet, question = (maker(TINY), U), ((2, None),), ('asked', 'a', 1)
        word, with_it, without = answer_of(crowd, sheet, 0, question)
        self.same(word, 'sometimes')
        for value, good in (((word, with_it, without), True), ((word, without, with_it), False), ((word, with_it, with_it), False),
                            ((word, with_it), False), ((word, with_it, without, ()), False), ([word, with_it, without], False),
                            (('always', with_it, without), False), ((word, with_it[0], without), False),
                            ((word, (with_it[0], with_it[1][1:]), without), False)):
            self.assertIs(shows_answer_of(crowd, sheet, 0, question, value), good)
        for value in ODD:
            for wrong in (value, (value, with_it, without), (word, value, without), (word, with_it, value), ('always', value),
                          ('never', value), ('none', value), (value, ())):
                self.assertIs(shows_answer_of(crowd, sheet, 0, question, wrong), False)
        self.assertIs(shows_answer_of(crowd, sheet, 0, question, (word, with_it, without), end='over'), False)

    def test_doubled_facts(self):
        crowd, sheet, question = (maker('cell x 1\nhand h\n  a: ask x'),), ((),), ('or', ('fell', 1), ('fell', 1))
        word, table = answer_of(crowd, sheet, 0, question)
        done = (((),), (1,), (), ((),), 0, 0, False)
        for memory, good in (((0, 0), True), ((1, 0), False), ((0, 1), False), ((1, 1), False)):
            value = (word, tuple(sorted({*table, ((done,), ((0, 0),), memory)})))
            self.assertIs(shows_answer_of(crowd, sheet, 0, question, value), good)


class TestErrors(Case):
    good = {'crowd': (maker(TINY), U), 'sheet': ((('h', 'go', ()), 1),), 'copy': 0, 'index': 0, 'number': 0,
            'question': ('did', 'a', 1), 'end': None, 'value': ()}
    deeds = ((woven, 'crowd sheet end'), (fits_woven, 'crowd sheet value end'), (whose, 'crowd sheet copy index end'),
             (why, 'crowd sheet copy index number end'), (shows_why, 'crowd sheet copy index number value end'),
             (answer_of, 'crowd sheet number question end'), (shows_answer_of, 'crowd sheet number question value end'))
    errors = {'crowd': BadCrowd, 'sheet': BadSheet, 'copy': NoItem, 'index': NoItem, 'number': NoNumber,
              'question': BadQuestion, 'end': BadEnd}

    def test_each(self):
        made = maker(TINY)
        wrong = {'crowd': (*ODD, (made, made, made), [made], made, (made, Program(TINY)), (made, None), ((made,),)),
                 'sheet': BAD_SHEETS, 'copy': [value for value in ODD if value is False or value != 0],
                 'index': [1, 2, *[value for value in ODD if value is False or value != 0]],
                 'number': [2, *[value for value in ODD if isinstance(value, bool) or value not in (0, 1)]],
                 'question': (*ODD, ('did', 'z', 1), ('was', 'y', 0)), 'end': BAD_ENDS}
        for deed, names in self.deeds:
            good = {name: self.good[name] for name in names.split()}
            for name in good:
                for value in wrong.get(name, ()):
                    self.told(self.errors[name], value, deed, **{**good, name: value})

    def test_sequence(self):
        values = {'crowd': (), 'sheet': (1,), 'copy': 1, 'index': 1, 'number': 2, 'question': ('did', 'k', 1), 'end': 'over '}
        for deed, names in self.deeds:
            good = {name: self.good[name] for name in names.split()}
            self.told_in_sequence(deed, good, [(name, values[name], self.errors[name]) for name in values if name in good])

    def test_items(self):
        sheet = ((('h', 'go', ()), None, 2), (None,))
        crowd = (maker(TINY),)
        self.same(whose(crowd, ((('h', 'go', ()), None), (None,)), 0, 0), (0,))
        for copy, index, wrong in ((0, 1, 1), (0, 2, 2), (0, 3, 3), (0, 4, 4), (1, 0, 0), (1, 1, 1), (2, 0, 2), (-1, 0, -1), (0, -1, -1)):
            self.told(NoItem, wrong, whose, crowd, sheet, copy, index)
            self.told(NoItem, wrong, why, crowd, sheet, copy, index, 0)
            self.told(NoItem, wrong, shows_why, crowd, sheet, copy, index, 0, None)
        self.told(NoNumber, 1, why, crowd, sheet, 0, 0, 1)
        self.told(BadQuestion, ('did', 'b', 1), answer_of, (maker(TINY), U), ((),), 1, ('did', 'b', 1))

    def test_limit(self):
        """Two runs stand anywhere: there are as many pairs as the product of their stands."""
        for sizes, crowd, fine in (((50, 80), (standing(1, 1, 4), standing(3, 1, 2)), True), ((58, 69), (standing(1, 3, 4), standing(2, 0, 3)), False)):
            self.same(tuple(len(cover(made, ((),))) for made in crowd), sizes)
            good = {**self.good, 'crowd': crowd, 'sheet': ((),)}
            weaving = (((do(0, 0),), ()), ())
            if fine:
                self.same(woven(crowd, ((),))[0], 'weaving')
                self.same(len(answer_of(crowd, ((),), 0, ('fell', 1))[1]), 4000)
                continue
            self.told(TooMany, 4000, woven, crowd, ((),))
            self.told(TooMany, 4000, answer_of, crowd, ((),), 0, ('is', 'x', 0))
            self.told(TooMany, 4000, answer_of, crowd, ((),), 1, ('did', 'a', 1))
            self.assertIs(fits_woven(crowd, ((),), weaving), True)
            self.assertIs(shows_answer_of(crowd, ((),), 0, ('did', 'a', 1), ('sometimes', weaving, (((), ()), ()))), True)
            for name, value in (('sheet', 0), ('number', 2), ('question', 0), ('end', 0)):
                more = {name: good[name] for name in ('crowd', 'sheet', 'number', 'question', 'end')}
                self.told(self.errors[name], value, answer_of, **{**more, name: value})
            # Of whose and why, too, also if the item can be nobody's.
            sheet = (((None, 'w', None),),)
            self.told(TooMany, 4000, whose, crowd, sheet, 0, 0)
            self.told(TooMany, 4000, why, crowd, sheet, 0, 0, 0)
            table = plaincrowd.least(plaincrowd.first_pair(crowd, sheet), lambda member: [
                there for _, _, there in plaincrowd.targets(crowd, sheet, member)])
            self.assertGreater(len(table), 4000)
            self.assertIs(shows_why(crowd, sheet, 0, 0, 0, ('never', table)), True)
            self.assertIs(shows_why(crowd, sheet, 0, 0, 0, ('never', table[:-1])), False)

    def test_limit_of_memories(self):
        """With memories there are more members than without."""
        rows = '\n  ask x' * 7
        crowd = (maker('cell x 3\nhand h\n  a: ask x' + rows), maker('cell x 3\nhand h\n  ask x' + rows + '\n  ask x' * 6))
        self.same(woven(crowd, ((),))[0], 'weaving')
        self.same(answer_of(crowd, ((),), 0, ('is', 'x', 0))[0], 'sometimes')
        self.same(answer_of(crowd, ((),), 0, ('asked', 'a', 1))[0], 'sometimes')
        twice = ('and', ('asked', 'a', 1), ('was', 'x', 2))
        self.told(TooMany, 4000, answer_of, (crowd[1], crowd[0]), ((), (None,)), 1, twice)


class TestBoxes(CrowdCase):
    def test_entries_wait(self):
        """What is written late comes behind what the other one writes at once."""
        late, soon = maker('box 1\nhand h\n  a: log 1 u\n  b: stop', names=False), V
        crowd = (late, soon)
        sheet = (((None, 'v', ()), (None, 'u', ())),)
        self.same(self.answer(crowd, sheet, 0, ('did', 'a', 1)), 'always')
        self.same(self.answer(crowd, ((1,),), 0, ('did', 'a', 1)), 'sometimes')
        self.same(self.answer(crowd, sheet, 0, ('did', 'b', 1)), 'sometimes')
        self.same(self.answer(crowd, sheet, 0, ('did', 'b', 1), 'over'), 'always')
        self.assertIs(fits_woven(crowd, sheet, (((do(0), write(0)), (do(0),)), (1, 0))), True)
        self.assertIs(fits_woven(crowd, sheet, (((do(0),), (do(0),)), (1,))), False)


if __name__ == '__main__':
    unittest.main()
