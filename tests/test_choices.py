import itertools
import random
import unittest

from loggedruns.changes import changed
from loggedruns.choices import cheapest, shows_cheapest
from loggedruns.errors import BadOffers, BadQuestion, TooMany
from loggedruns.settling import settled, shows_settled
from tests import generate
from tests.common import ODD, TINY, Case, do, maker

ASKED = ('asked', 'a', 1)
MUTE = 'cell x 1\nhand h\n  a: ask x\n  log 1 go\n  c: stop'
GOT, ODDS = ('log', 'a', 'behind', 1, 'got', ('x',)), ('log', 'c', 'ahead', 2, 'odd', ('x.odd',))
IDLE, FLUSH = ('log', 'a', 'ahead', 1, 'idle', ()), ('flush', 'a', 'behind')


def is_settled(made, question, choice):
    return settled(changed(made, choice), question)[0] == 'settled'


def all_choices(offers):
    """All choices of offers, ascending by price, then as tuples."""
    found = [tuple(offer for offer, taken in zip(offers, mask) if taken)
             for mask in itertools.product((False, True), repeat=len(offers))]
    return sorted([(sum(price for _, price in choice), tuple(change for change, _ in choice)) for choice in found])


class ChoiceCase(Case):
    def choice(self, made, question, *offers):
        """The choice that is told; all that shows it is looked at."""
        offers = tuple(sorted(offers))
        told = choice, table, reasons = cheapest(made, question, offers)
        self.assertIs(shows_cheapest(maker=made, question=question, offers=offers, value=told), True)
        ahead = all_choices(offers)
        if choice is not None:
            self.same(table, settled(changed(made, choice), question)[1])
            cost = [price for price, one in ahead if one == choice][0]
            ahead = [pair for pair in ahead if pair < (cost, choice)]
        else:
            self.assertIsNone(table)
        self.same([reason[0] for reason in reasons], [one for _, one in ahead])
        for one, *runs in reasons:
            self.assertIs(shows_settled(changed(made, one), question, ('open', *runs)), True)
        return choice


class TestExample(ChoiceCase):
    def test_mute(self):
        mute = maker(MUTE)
        offers = ((GOT, 3), (ODDS, 2))
        choice = cheapest(mute, ASKED, offers)[0]
        self.same([choice, changed(mute, choice).program.text],
                  [(ODDS,), 'cell x 1\nhand h\n  a: ask x\n  log 1 go\n  log 2 odd x.odd\n  c: stop'])


class TestCheapest(ChoiceCase):
    def test_nothing_is_needed(self):
        self.same(self.choice(maker(TINY), ASKED, (GOT, 1)), ())
        self.same(self.choice(maker(MUTE), ('did', 'a', 1), (GOT, 1), (ODDS, 1)), ())
        self.same(cheapest(maker(TINY), ASKED, ((FLUSH, 1),))[2], ())

    def test_one(self):
        made = maker(MUTE)
        for prices, expected in (((3, 2), (ODDS,)), ((2, 3), (GOT,)), ((2, 2), (GOT,)), ((99, 98), (ODDS,)), ((1, 99), (GOT,))):
            self.same(self.choice(made, ASKED, (GOT, prices[0]), (ODDS, prices[1])), expected)
        # Cheaper ones that do not settle it come first, as reasons.
        told = cheapest(made, ASKED, ((FLUSH, 1), (IDLE, 1), (GOT, 3)))
        self.same([told[0], [reason[0] for reason in told[2]]], [(GOT,), [(), (FLUSH,), (IDLE,), (FLUSH, IDLE)]])
        self.same(self.choice(made, ASKED, (FLUSH, 1), (IDLE, 1), (GOT, 3)), (GOT,))

    def test_as_dear_and_less(self):
        made = maker(MUTE)
        # The tuples are compared: (FLUSH, GOT) is less than (GOT,), but dearer; of those as dear the least one is told.
        self.same(self.choice(made, ASKED, (FLUSH, 1), (GOT, 2), (ODDS, 2)), (GOT,))
        one, other = ('log', 'a', 'behind', 1, 'p', ('x',)), ('log', 'a', 'behind', 1, 'q', ('x',))
        self.same(self.choice(made, ASKED, (one, 5), (other, 5)), (one,))
        self.same(self.choice(made, ASKED, (one, 6), (other, 5)), (other,))

    def test_several(self):
        made = maker('cell x 1\ncell y 1\nhand h\n  a: ask x\n  b: ask y\n  c: stop')
        question = ('and', ('is', 'x', 1), ('is', 'y', 1))
        x, y = ('log', 'c', 'ahead', 1, 'p', ('x',)), ('log', 'c', 'ahead', 1, 'q', ('y',))
        both = ('log', 'c', 'ahead', 1, 'r', ('x', 'y'))
        self.same(self.choice(made, question, (x, 2), (y, 2)), (x, y))
        self.same(self.choice(made, question, (x, 2), (y, 2), (both, 5)), (x, y))
        self.same(self.choice(made, question, (x, 2), (y, 2), (both, 4)), (x, y))
        self.same(self.choice(made, question, (x, 2), (y, 2), (both, 3)), (both,))
        self.same(self.choice(made, question, (x, 1), (y, 99), (both, 99), (('level', 3), 1)), (both,))
        self.same(self.choice(made, ('is', 'x', 1), (x, 2), (y, 2), (both, 1)), (both,))

    def test_none_is_enough(self):
        made = maker(MUTE)
        self.assertIsNone(self.choice(made, ASKED, (FLUSH, 1)))
        self.assertIsNone(self.choice(made, ASKED, (FLUSH, 1), (IDLE, 1), (('names', False), 3), (('level', 2), 2)))
        told = cheapest(made, ASKED, ((FLUSH, 2), (IDLE, 1)))
        self.same([told[:2], [reason[0] for reason in told[2]]], [(None, None), [(), (IDLE,), (FLUSH,), (FLUSH, IDLE)]])

    def test_recorders_and_boxes(self):
        made = maker('cell x 1\nbox 1\nhand h\n  a: ask x\n  log 1 v\n  log 1 u x\n  b: fail w', level=2, every=2)
        offers = ((('box', 0), 9), (('every', 0), 4), (('level', 1), 2))
        self.same(self.choice(made, ASKED, *offers), (('box', 0), ('every', 0), ('level', 1)))
        self.same(self.choice(made, ASKED, (('every', 0), 4), (('flush', 'b', 'ahead'), 3), (('level', 1), 2)),
                  (('every', 0), ('flush', 'b', 'ahead'), ('level', 1)))
        self.assertIsNone(self.choice(made, ASKED, *offers[1:]))
        made = maker('hand one\n  start two\n  a: log 1 u\nhand two\n  b: log 1 u', names=False)
        self.same(self.choice(made, ('ahead', 'a', 'b'), (('level', 3), 1), (('names', True), 5)), (('names', True),))
        made = maker('hand one\n  start two\n  a: flush\n  log 1 u\nhand two\n  b: flush\n  log 1 u', names=False)
        self.assertIsNone(self.choice(made, ('ahead', 'a', 'b'), (('level', 2), 1)))
        self.same(self.choice(made, ('ahead', 'a', 'b'), (('log', 'a', 'ahead', 1, 'v', ()), 1), (('log', 'b', 'behind', 1, 'w', ()), 1)),
                  None)

    def test_more_rows_are_not_always_better(self):
        """An entry more shifts which ones are lost."""
        made = maker('cell x 1\nhand h\n  a: ask x\n  log 1 u x\n  log 1 v', every=2)
        self.same(self.choice(made, ASKED, (IDLE, 1)), ())
        made = maker('cell x 1\nhand h\n  a: ask x\n  log 1 v\n  log 1 u x', every=2)
        self.same(self.choice(made, ASKED, (IDLE, 1)), (IDLE,))
        self.same(self.choice(made, ASKED, (IDLE, 1), (('log', 'a', 'behind', 1, 'j', ()), 1)), (('log', 'a', 'ahead', 1, 'idle', ()),))
        told = changed(made, (IDLE, ('log', 'a', 'behind', 1, 'j', ())))
        self.same(settled(told, ASKED)[0], 'open')

    def test_prices_and_numbers_of_offers(self):
        made = maker(MUTE)
        offers = [(('box', 1), 1), (('every', 3), 99), (FLUSH, 50), (GOT, 99), (IDLE, 98)]
        for many in range(1, 6):
            self.same(self.choice(made, ASKED, *offers[:many]), (GOT,) if many > 3 else None)
        self.same(len(cheapest(made, ASKED, tuple(sorted(offers[:3])))[2]), 8)

    def test_random(self):
        rng = random.Random(32)
        found = {0: 0, 1: 0, 2: 0, None: 0}
        for _ in range(600):
            made = generate.talker(rng)
            question = generate.fact(rng, made.program, ('asked', 'did', 'is', 'was', 'by'))
            if is_settled(made, question, ()) and rng.random() < 0.95:
                continue
            label = rng.choice(made.program.labels)
            pool = [('log', label, 'behind', 1, 'p', ('x',)), ('log', label, 'ahead', 3, 'q', ('y.some',)), ('flush', label, 'ahead'),
                    ('level', rng.randint(1, 3)), ('every', rng.choice([0, 2])), ('box', rng.randint(0, 1)), ('names', False)]
            offers = [(change, rng.choice([1, 1, 2, 3])) for change in rng.sample(pool, rng.randint(1, 4))]
            enough = [(cost, one) for cost, one in all_choices(sorted(offers)) if is_settled(made, question, one)]
            choice = self.choice(made, question, *offers)
            self.same(choice, enough[0][1] if enough else None)
            found[None if choice is None else min(len(choice), 2)] += 1
        self.assertGreater(min(found[0], found[1], found[None]), 5)
        self.assertGreater(found[2], 0)

    def test_limit(self):
        """With the flush the least table is greater than 4000, but not without it."""
        # Nodes: the first one, 4 behind the first ask, 8 behind each further one, 2 behind each row that follows.
        made = maker('cell x 3\nhand h\n  a: ask x\n' + '  ask x\n' * 6 + '  set x 0\n  b: flush' + '\n  flush' * 3)
        self.same(len(settled(made, ('was', 'x', 0))[1]) < 4000, True)
        more, loud = ('flush', 'b', 'behind'), ('log', 'a', 'behind', 1, 'u', ())
        self.same(cheapest(made, ('did', 'a', 1), ((more, 1),))[0], ())
        # It is not settled by nothing; the flush comes ahead of the row that settles it.
        self.told(TooMany, 4000, cheapest, made, ('asked', 'a', 1), ((more, 1),))
        got = ('log', 'a', 'behind', 1, 'u', ('x',))
        self.told(TooMany, 4000, cheapest, made, ('asked', 'a', 1), ((more, 1), (got, 2)))
        choice, _, reasons = cheapest(made, ('asked', 'a', 1), ((more, 3), (got, 2)))
        self.same([choice, len(reasons)], [(got,), 1])
        # As dear, the flush comes ahead.
        self.told(TooMany, 4000, cheapest, made, ('asked', 'a', 1), ((more, 2), (got, 2)))
        # What looks at it does not raise it.
        self.assertIs(shows_cheapest(made, ('asked', 'a', 1), ((more, 1), (loud, 2)), (None, None, ())), False)
        one, other = [(do(0, x), *[do(0, 0)] * 6, *[do(0)] * 6) for x in (0, 1)]
        _, table, reasons = cheapest(made, ('asked', 'a', 1), ((got, 2),))
        value = ((got,), table, (*reasons, ((more,), one, other)))
        self.assertIs(shows_cheapest(made, ('asked', 'a', 1), ((more, 1), (got, 2)), value), True)
        self.assertIs(shows_cheapest(made, ('asked', 'a', 1), ((more, 3), (got, 2)), value), False)


class TestShows(ChoiceCase):
    offers = ((FLUSH, 1), (GOT, 3), (ODDS, 2))

    def setUp(self):
        self.made = maker(MUTE)
        self.choice, self.table, self.reasons = cheapest(self.made, ASKED, self.offers)

    def shows(self, *value, offers=None):
        return shows_cheapest(self.made, ASKED, offers or self.offers, value)

    def test_choices(self):
        self.same([self.choice, [reason[0] for reason in self.reasons]], [(ODDS,), [(), (FLUSH,)]])
        self.assertIs(self.shows(self.choice, self.table, self.reasons), True)
        for _, other in all_choices(self.offers):
            word, *shown = settled(changed(self.made, other), ASKED)
            if other != self.choice:
                self.assertIs(self.shows(other, shown[0], self.reasons), False)
                self.assertIs(self.shows(other, self.table, self.reasons), False)
        for other in (None, (), ODDS, [ODDS], (list(ODDS),), (ODDS, ODDS), (('box', 0),), (ODDS[:-1],), ((*ODDS[:3], True, *ODDS[4:]),),
                      ((*ODDS[:5], ['x.odd']),), 1, 'odd'):
            self.assertIs(self.shows(other, self.table, self.reasons), False)
        # With other prices it is not the cheapest, or others come ahead of it.
        for prices in ((1, 1, 2), (1, 3, 1), (2, 3, 2), (3, 3, 2), (1, 3, 4), (1, 3, 3), (1, 2, 2), (1, 4, 2), (1, 9, 3)):
            offers = tuple([(change, price) for (change, _), price in zip(self.offers, prices)])
            told = cheapest(self.made, ASKED, offers)
            fine = told[0] == self.choice and [reason[0] for reason in told[2]] == [reason[0] for reason in self.reasons]
            self.assertIs(self.shows(self.choice, self.table, self.reasons, offers=offers), fine)
            self.assertIs(fine, prices in ((1, 3, 1), (2, 3, 2), (1, 4, 2), (1, 9, 3)))

    def test_bools_in_choices(self):
        made = maker('cell x 1\nhand h\n  a: ask x\n  log 1 u x', level=3, names=False)
        offers = ((('level', 1), 1), (('names', True), 1))
        choice, table, reasons = cheapest(made, ASKED, offers)
        self.same(choice, (('level', 1),))
        self.assertIs(shows_cheapest(made, ASKED, offers, (choice, table, reasons)), True)
        self.assertIs(shows_cheapest(made, ASKED, offers, ((('level', True),), table, reasons)), False)
        made = maker('hand one\n  start two\n  a: log 1 u\nhand two\n  b: log 1 u', names=False)
        offers = ((('names', True), 1),)
        choice, table, reasons = cheapest(made, ('ahead', 'a', 'b'), offers)
        self.same(choice, (('names', True),))
        self.assertIs(shows_cheapest(made, ('ahead', 'a', 'b'), offers, (choice, table, reasons)), True)
        self.assertIs(shows_cheapest(made, ('ahead', 'a', 'b'), offers, ((('names', 1),), table, reasons)), False)

    def test_reasons(self):
        for k, (one, first, second) in enumerate(self.reasons):
            bad = [(), (self.reasons[k],) * 2, ([one, first, second],), ((one, first),), ((one, first, second, second),),
                   ((one, first, first),), ((one, first, ()),), ((one, list(first), second),), ((list(one), first, second),),
                   (((IDLE,), first, second),), ((None, first, second),), (None,), ((one, first[:-1], second),),
                   (((ODDS,), first, second),), ((first, one, second),)]
            for more in bad:
                self.assertIs(self.shows(self.choice, self.table, (*self.reasons[:k], *more, *self.reasons[k + 1:])), False)
            self.assertIs(self.shows(self.choice, self.table, (*self.reasons[:k], (one, second, first), *self.reasons[k + 1:])), True)
        self.assertIs(self.shows(self.choice, self.table, self.reasons[::-1]), False)
        self.assertIs(self.shows(self.choice, self.table, list(self.reasons)), False)
        one, other = [(do(0, x), do(0), do(0)) for x in (0, 1)]
        self.assertIs(self.shows(self.choice, self.table, (*self.reasons, ((GOT,), one, other))), False)
        # Runs of the maker as it was are none of the one so changed.
        self.assertIs(self.shows(self.choice, self.table, (self.reasons[0], ((FLUSH,), *self.reasons[0][1:]))), False)

    def test_tables(self):
        for k in range(len(self.table)):
            self.assertIs(self.shows(self.choice, self.table[:k] + self.table[k + 1:], self.reasons), False)
        for value in (*ODD, list(self.table), settled(changed(self.made, (GOT,)), ASKED)[1], ('settled', self.table)):
            self.assertIs(self.shows(self.choice, value, self.reasons), False)

    def test_none(self):
        offers = ((FLUSH, 2), (IDLE, 1))
        choice, table, reasons = cheapest(self.made, ASKED, offers)
        self.assertIs(self.shows(None, None, reasons, offers=offers), True)
        for value in ((None, (), reasons), ((), None, reasons), (None, None, reasons[:-1]), (None, None, (*reasons, reasons[-1])),
                      (None, None, ()), (None, None, list(reasons)), (False, None, reasons), (None, 0, reasons), (None, None, None),
                      ((FLUSH, IDLE), None, reasons), ((FLUSH, IDLE), None, reasons[:-1])):
            self.assertIs(self.shows(*value, offers=offers), False)

    def test_nothing_is_needed(self):
        made = maker(TINY)
        choice, table, reasons = cheapest(made, ASKED, ((FLUSH, 1),))
        self.same([choice, reasons], [(), ()])
        self.assertIs(shows_cheapest(made, ASKED, ((FLUSH, 1),), ((), table, ())), True)
        for value in ((None, None, ()), ((), (), ()), ([], table, ()), ((), table, []), ((FLUSH,), table, ()), ((), table[1:], ())):
            self.assertIs(shows_cheapest(made, ASKED, ((FLUSH, 1),), value), False)

    def test_any_value(self):
        told = (self.choice, self.table, self.reasons)
        for value in (*ODD, list(told), told[:2], (*told, None), told[::-1], (told,)):
            self.assertIs(shows_cheapest(self.made, ASKED, self.offers, value), False)
        for value in ODD:
            self.assertIs(self.shows(value, self.table, self.reasons), False)
            self.assertIs(self.shows(self.choice, self.table, value), False)
            self.assertIs(self.shows(self.choice, self.table, (value, value)), False)
            self.assertIs(self.shows(self.choice, self.table, ((value,) * 3, self.reasons[1])), False)


class TestWrongValues(Case):
    def test_offers(self):
        made = maker(MUTE)
        good = (FLUSH, 1)
        for value in (*ODD, [good], good, (FLUSH,), ((FLUSH,),), ((FLUSH, 1, 1),), ([FLUSH, 1],), ((1, FLUSH),), (good, None),
                      *[((FLUSH, price),) for price in (0, -1, 100, True, None, '1', (1,), [1])],
                      *[((change, 1),) for change in (('flush', 'b', 'ahead'), ('box', 3), ('level', 0), ('every', 1), ('names', 1), (),
                                                      None, ['box', 1], ('box', True), ('log', 'a', 'ahead', 1, 'w', ('z',)))],
                      ((GOT, 1), good), ((FLUSH, 1), (FLUSH, 1)), ((FLUSH, 1), (FLUSH, 2)), ((FLUSH, 2), (FLUSH, 1)),
                      ((('box', 0), 1), (('box', 1), 1)), ((('level', 1), 1), (('level', 2), 1)), ((('every', 0), 1), (('every', 2), 1)),
                      ((('names', False), 1), (('names', True), 1)),
                      tuple([(('log', 'a', 'ahead', 1, word, ()), 1) for word in 'abcdef'])):
            self.told(BadOffers, value, cheapest, made, ASKED, value)
            self.told(BadOffers, value, shows_cheapest, made, ASKED, value, None)
        for price in (1, 99):
            self.assertIsNone(cheapest(made, ASKED, ((FLUSH, price),))[0])
        self.assertIsNone(cheapest(made, ASKED, tuple([(('log', 'a', 'ahead', 1, word, ()), 1) for word in 'abcde']))[0])

    def test_all_can_be_made_together(self):
        for rows in (16, 17, 18):
            made = maker('cell x 1\nhand h\n  a: ask x' + '\n  flush' * (rows - 1))
            offers = tuple([(('log', 'a', 'ahead', 1, word, ()), 1) for word in 'abc'])
            if rows < 18:
                self.assertIsNone(cheapest(made, ASKED, offers)[0])
            else:
                self.told(BadOffers, offers, cheapest, made, ASKED, offers)
                self.assertIsNone(cheapest(made, ASKED, offers[:2])[0])
            self.same(cheapest(made, ('did', 'a', 1), (*((('box', 0), 1), (('level', 1), 1)), *offers[:1])[:2])[0], ())

    def test_in_sequence(self):
        made = maker(MUTE)
        for value in (*ODD, ('asked', 'c', 0), ('is', 'x', 2)):
            self.told(BadQuestion, value, cheapest, made, value, ((FLUSH, 1),))
            self.told(BadQuestion, value, shows_cheapest, made, value, None, None)
        wrong = [('question', ('not', ASKED, ASKED), BadQuestion), ('offers', ((FLUSH, 0),), BadOffers)]
        self.told_in_sequence(cheapest, {'maker': made, 'question': ASKED, 'offers': ((FLUSH, 1),)}, wrong)
        self.told_in_sequence(shows_cheapest, {'maker': made, 'question': ASKED, 'offers': ((FLUSH, 1),), 'value': 1}, wrong)
        much = maker('cell x 3\ncell y 3\nhand h\n  a: ask x' + '\n  ask y' * 6)
        self.told(TooMany, 4000, cheapest, much, ASKED, ((FLUSH, 1),))
        self.told_in_sequence(cheapest, {'maker': much, 'question': ASKED, 'offers': ((FLUSH, 1),)}, wrong)

    def test_nothing_is_changed(self):
        told = self.unchanged(cheapest, maker(MUTE), ASKED, ((FLUSH, 1), (ODDS, 2)))
        self.unchanged(shows_cheapest, maker(MUTE), ASKED, ((FLUSH, 1), (ODDS, 2)), told)


if __name__ == '__main__':
    unittest.main()
