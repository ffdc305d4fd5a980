import random
import unittest

from loggedruns.changes import changed
from loggedruns.errors import BadOffers, BadQuestion, TooMany
from loggedruns.front import front, shows_front
from loggedruns.lateness import late, shows_late
from tests import generate
from tests.common import ODD, TINY, Case, maker, near
from tests.test_choices import ASKED, FLUSH, GOT, IDLE, MUTE, ODDS, all_choices


def number(result):
    return result[1] if result[0] == 'held' else 9999


def is_better(one, other):
    """Whether the first of two (price, lateness, choice) is better, in the document's words."""
    if one[0] > other[0] or one[1] > other[1]:
        return False
    return one[:2] != other[:2] or one[2] < other[2]


def plain_points(offers, results):
    points = [(price, number(result), choice) for (price, choice), (_, result) in zip(all_choices(offers), results)]
    return tuple(sorted([point for point in points if not any(is_better(other, point) for other in points)]))


class FrontCase(Case):
    def front(self, made, question, *offers):
        """What is told, looked at and compared with each two choices."""
        offers = tuple(sorted(offers))
        told = points, results = self.unchanged(front, maker=made, question=question, offers=offers)
        self.assertIs(shows_front(maker=made, question=question, offers=offers, value=told), True)
        self.same([choice for choice, _ in results], [choice for _, choice in all_choices(offers)])
        for choice, result in results:
            self.same(result, late(changed(made, choice), question))
        self.same(points, plain_points(offers, results))
        return points


class TestFront(FrontCase):
    def test_points(self):
        made = maker(MUTE)
        self.same(self.front(made, ASKED, (GOT, 3), (ODDS, 2)),
                  ((0, 9999, ()), (2, 2, (ODDS,)), (3, 1, (GOT,))))
        self.same(self.front(made, ASKED, (GOT, 2), (ODDS, 3)), ((0, 9999, ()), (2, 1, (GOT,))))
        self.same(self.front(made, ASKED, (GOT, 2), (ODDS, 2)), ((0, 9999, ()), (2, 1, (GOT,))))
        self.same(self.front(maker(TINY), ASKED, (IDLE, 1)), ((0, 2, ()),))

    def test_nothing_is_better(self):
        # Silent ones and those that go on for ever are as late: the cheapest choice stays.
        self.same(self.front(maker(MUTE), ASKED, (FLUSH, 1), (IDLE, 2), (('every', 2), 1)), ((0, 9999, ()),))
        loop = maker('cell x 1\nhand h\n  a: ask x\n  while x = x\n    b: log 1 u')
        told = front(loop, ASKED, ((('level', 2), 5),))
        self.same([result[0] for _, result in told[1]], ['ever', 'silent'])
        self.same(told[0], ((0, 9999, ()),))

    def test_as_dear_and_as_late(self):
        one, other = ('log', 'a', 'behind', 1, 'p', ('x',)), ('log', 'a', 'behind', 1, 'q', ('x',))
        self.same(self.front(maker(MUTE), ASKED, (one, 5), (other, 5)), ((0, 9999, ()), (5, 1, (one,))))
        self.same(self.front(maker(MUTE), ASKED, (one, 6), (other, 5)), ((0, 9999, ()), (5, 1, (other,))))

    def test_random(self):
        rng = random.Random(41)
        lengths = []
        while len(lengths) < 25:
            made = generate.talker(rng)
            question = generate.fact(rng, made.program, generate.LASTING)
            label = rng.choice(made.program.labels)
            changes = [('log', label, 'behind', 1, 'p', ('x',)), ('log', label, 'ahead', 2, 'q', ('y',)), ('every', 2),
                       ('every', 0), ('box', 0), ('names', False), ('level', 1), ('flush', label, 'behind')]
            offers = [(change, rng.randint(1, 3)) for change in rng.sample(changes, 3)]
            if len({change[0] for change, _ in offers}) == 3:
                lengths.append(len(self.front(made, question, *offers)))
        self.assertGreater(max(lengths), 1)


class TestErrors(Case):
    def test_sequence(self):
        made, offers = maker(MUTE), ((GOT, 1),)
        good = {'maker': made, 'question': ASKED, 'offers': offers}
        silent = ('not', ASKED)
        for deed, more in ((front, {}), (shows_front, {'value': ((), ())})):
            self.told_in_sequence(deed, {**good, **more}, [('question', silent, BadQuestion), ('offers', (), BadOffers)])
            for value in (*ODD, ('is', 'x', 1), ('and', ASKED, ('ended', 'done')), ('asked', 'a', 2)):
                self.told(BadQuestion, value, deed, **{**good, **more, 'question': value})
            for value in (*ODD, ((GOT, 0),), ((ODDS, 1), (GOT, 1), (GOT, 1)), ((GOT, 1), (GOT, 2)), [(GOT, 1)]):
                self.told(BadOffers, value, deed, **{**good, **more, 'offers': value})

    def test_limit(self):
        made = maker('cell x 3\nhand h\n' + '  ask x\n' * 15 + '  set x 0\n  b: flush')
        more, fell = ('flush', 'b', 'behind'), ('fell', 1)
        points, results = front(made, fell, ((('level', 2), 1),))
        self.same((points, len(results), len(results[0][1][2])), (((0, 0, ()),), 2, 63 * 63))
        # Also if only a dearer choice has so many members, though a cheaper one is as good as can be.
        self.told(TooMany, 4000, front, made, fell, ((more, 99),))
        self.told(BadQuestion, 0, front, made, 0, ((more, 99),))
        self.told(BadOffers, 0, front, made, fell, 0)
        self.assertIs(shows_front(made, fell, ((more, 99),), (points, results)), False)


class TestShows(Case):
    offers = ((GOT, 3), (ODDS, 2))

    def setUp(self):
        self.made = maker(MUTE)
        self.value = front(self.made, ASKED, self.offers)

    def shows(self, value):
        return self.unchanged(shows_front, self.made, ASKED, self.offers, value)

    def test_one_thing_otherwise(self):
        points, results = self.value
        for wrong in (points[1:], points[:-1], (*points, (5, 1, (GOT, ODDS))), points[::-1], list(points), (),
                      ((0, 9998, ()), *points[1:]), ((1, 9999, ()), *points[1:]), ((False, 9999, ()), *points[1:]),
                      (points[0], (2, 2, (GOT,)), points[2]), (*points, points[-1])):
            self.assertIs(self.shows((wrong, results)), False)
        for wrong in (results[1:], results[:-1], results[::-1], list(results), (*results, results[-1]), (),
                      ((results[0][0], results[1][1]), *results[1:]), (results[1], results[0], *results[2:])):
            self.assertIs(self.shows((points, wrong)), False)
        self.assertIs(self.shows((points, results, ())), False)
        self.assertIs(self.shows([points, results]), False)
        for value in ODD:
            self.assertIs(self.shows(value), False)
            self.assertIs(self.shows((points, value)), False)
            self.assertIs(self.shows((value, results)), False)

    def test_held_numbers(self):
        points, results = self.value
        choice, (word, most, table, pair) = results[2]
        self.same((choice, word, most), ((GOT,), 'held', 1))
        # A held number above 0 has its pair; a greater number without one is so, but not the least.
        self.assertIs(shows_late(changed(self.made, choice), ASKED, (word, most, table, None)), True)
        for result in ((word, most, table, None), (word, most + 1, table, pair), (word, most + 1, table, None),
                       (word, most, table, pair[::-1]), (word, most, table[1:], pair)):
            self.assertIs(self.shows((points, (*results[:2], (choice, result), *results[3:]))), False)

    def test_random(self):
        rng = random.Random(42)
        for value in near(self.value, rng, 1500):
            good = isinstance(value, tuple) and len(value) == 2 and isinstance(value[1], tuple) and len(value[1]) == 4
            if good:
                for (_, choice), one in zip(all_choices(self.offers), value[1]):
                    good = good and isinstance(one, tuple) and len(one) == 2 and repr(one[0]) == repr(choice)
                    good = good and shows_late(changed(self.made, choice), ASKED, one[1])
                    good = good and not (one[1][0] == 'held' and one[1][1] > 0 and one[1][3] is None)
            good = good and repr(value[0]) == repr(plain_points(self.offers, value[1]))
            self.assertIs(self.shows(value), good)


if __name__ == '__main__':
    unittest.main()
