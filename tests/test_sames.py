import random
import unittest

from loggedruns.entries import log_of
from loggedruns.errors import TooMany
from loggedruns.sames import same_logs, shows_same
from loggedruns.stands import after, first_stand, is_stand, led, state, steps
from tests import brute, generate
from tests.common import GATE, ODD, TINY, Case, do, maker, near, write


class Stands:
    """The stands of a maker with what can be done there, each worked out once."""

    def __init__(self, made):
        self.made, self.known = made, {}

    def moves(self, stand):
        if stand not in self.known:
            self.known[stand] = [(entry, behind) for step in steps(self.made, stand)
                                 for behind, entry in [after(self.made, stand, step)]]
        return self.known[stand]

    def quiet(self, stands):
        found = set(stands)
        while True:
            more = {there for one in found for entry, there in self.moves(one) if entry is None} - found
            if not more:
                return tuple(sorted(found))
            found |= more

    def behind(self, stands, entry):
        return self.quiet({there for one in stands for got, there in self.moves(one) if got == entry})

    def entries(self, stands):
        return {entry for one in stands for entry, _ in self.moves(one) if entry is not None}

    def has_over(self, stands):
        return any(not self.moves(one) for one in stands)


def pairs_of(one, other):
    """All pairs that come of the first one, with the logs by which they come, shortest first."""
    left, right = Stands(one), Stands(other)
    first = (left.quiet({first_stand(one)}), right.quiet({first_stand(other)}))
    found, queue = {first: ()}, [first]
    for pair in queue:
        for entry in sorted(left.entries(pair[0]) | right.entries(pair[1]), key=repr):
            there = (left.behind(pair[0], entry), right.behind(pair[1], entry))
            if there not in found:
                found[there] = (*found[pair], entry)
                queue.append(there)
    return found


def parting(one, other):
    """The length of the shortest log that parts them, None without one."""
    left, right = Stands(one), Stands(other)
    return min([len(log) for pair, log in pairs_of(one, other).items()
                if left.has_over(pair[0]) != right.has_over(pair[1])], default=None)


def has_log(made, log):
    stands = Stands(made)
    found = stands.quiet({first_stand(made)})
    for entry in log:
        found = stands.behind(found, entry)
    return stands.has_over(found)


def is_table(one, other, value):
    """Whether any value is a table of sames, in the document's words."""
    if not isinstance(value, tuple) or not all(isinstance(pair, tuple) and len(pair) == 2 for pair in value):
        return False
    for pair in value:
        for made, stands in zip((one, other), pair):
            if not isinstance(stands, tuple) or not all(is_stand(made, stand) for stand in stands):
                return False
            if not all(low < high for low, high in zip(stands, stands[1:])):
                return False
    if not all(low < high for low, high in zip(value, value[1:])):
        return False
    left, right = Stands(one), Stands(other)
    if (left.quiet({first_stand(one)}), right.quiet({first_stand(other)})) not in value:
        return False
    for pair in value:
        if left.has_over(pair[0]) != right.has_over(pair[1]):
            return False
        for entry in left.entries(pair[0]) | right.entries(pair[1]):
            if (left.behind(pair[0], entry), right.behind(pair[1], entry)) not in value:
                return False
    return True


class SamesCase(Case):
    def told_of(self, one, other):
        told = self.unchanged(same_logs, one=one, other=other)
        self.assertIs(shows_same(one=one, other=other, value=told), True)
        if told[0] == 'same':
            self.same(told, ('same', tuple(sorted(pairs_of(one, other)))))
            self.assertTrue(is_table(one, other, told[1]))
        else:
            word, number, run = told
            self.same(word, 'other')
            own, foreign = [(one, other), (other, one)][number]
            self.assertNotEqual(state(own, led(own, run)), 'open')
            self.assertFalse(has_log(foreign, log_of(own, run)))
            self.same(len(log_of(own, run)), parting(one, other))
            self.assertIs(shows_same(other, one, (word, 1 - number, run)), True)
        return told


ONE, SET = maker('hand h\n  log 1 u'), maker('cell x 1\nhand h\n  set x 1\n  log 1 u')
ASK = maker('cell x 1\nhand h\n  ask x\n  if x = 0\n    log 1 u')
LOOP = maker('cell x 1\nhand h\n  while x = x\n    log 1 u')


class TestExample(SamesCase):
    def test_three(self):
        self.same([same_logs(ONE, SET)[0], same_logs(ONE, ASK)], ['same', ('other', 1, (do(0, 1), do(0)))])


class TestSames(SamesCase):
    def word(self, one, other):
        told = self.told_of(one, other)
        return told[0] if told[0] == 'same' else (told[1], len(log_of((one, other)[told[1]], told[2])))

    def test_same(self):
        for one, other in ((ONE, ONE), (ONE, SET), (SET, ONE), (ASK, ASK), (maker(GATE), maker(GATE)), (LOOP, LOOP),
                           (ONE, maker('hand h\n  log 2 u\n  log 1 v', level=2)), (maker('box 1\nhand h\n  log 1 u'), ONE),
                           (maker('lock l\nhand h\n  take l\n  log 1 u\n  stop'), ONE), (maker('hand h\n  stop'), maker('hand k\n  flush'))):
            self.same(self.word(one, other), 'same')

    def test_words_levels_losses_names(self):
        two = 'hand h\n  log 1 u\n  log 1 u'
        for one, other, expected in (
                (ONE, maker('hand h\n  log 1 v'), (0, 1)), (ONE, maker('hand k\n  log 1 u'), (0, 1)),
                (ONE, maker('hand h\n  log 1 u', names=False), (0, 1)), (maker('hand h\n  log 1 u', level=2), ONE, (0, 0)),
                (maker(two, every=2), ONE, 'same'), (maker(two), ONE, (1, 1)), (ONE, maker(two), (0, 1)),
                (maker(two, every=2), maker(two), (0, 1)), (ASK, ONE, (0, 0)),
                (maker('cell x 1\nhand h\n  ask x\n  log 1 u x'), maker('cell x 1\nhand h\n  log 1 u x'), (0, 1)),
                (maker('cell x 2\nhand h\n  ask x\n  log 1 u x.odd'), maker('cell x 2\nhand h\n  ask x\n  log 1 u x.some'), 'same')):
            self.same(self.word(one, other), expected)

    def test_falls_and_boxes(self):
        text = 'hand h\n  log 1 u\n  log 1 v\n  fail e'
        self.same(self.word(maker('box 2\n' + text), maker(text)), (0, 0))
        self.same(self.word(maker('box 1\n' + text), maker('box 2\n' + text)), (1, 0))
        self.same(self.word(maker('again 1\n' + text), maker(text)), (1, 2))
        self.same(self.word(maker(text), maker('again 1\n' + text)), (0, 2))

    def test_never_over(self):
        self.same(self.word(LOOP, maker('cell x 1\nhand h\n  while x = x\n    set x 0')), 'same')
        self.same(self.word(LOOP, ONE), (1, 1))
        self.same(self.word(ONE, LOOP), (0, 1))
        last = 'cell x 1\nhand h\n  while x = 0\n    log 1 u\n    ask x'
        self.same(self.word(maker(last), maker(last + '\n  log 1 u')), (0, 1))
        self.same(self.word(maker(last), maker('cell x 1\nhand h\n  log 1 u\n  while x = 0\n    ask x\n    if x = 0\n      log 1 u')),
                  'same')

    def test_the_shortest_log(self):
        made = [maker('cell x 2\nhand h\n  ask x\n' + text) for text in
                ('  while x > 0\n    log 1 u\n    add x -1', '  if x > 0\n    log 1 u\n  if x = 2\n    log 1 u\n    log 1 u')]
        self.same(self.word(*made), (0, 2))
        self.same(self.word(*made[::-1]), (1, 2))

    def test_random(self):
        rng = random.Random(61)
        found = {}
        for number in range(300):
            one = [generate.made, generate.chatty, generate.looped, generate.talker][number % 4](rng)
            lines = one.program.text.split('\n')
            kind = rng.random()
            if kind < 0.3:
                at = rng.choice([k for k, line in enumerate(lines) if ' log ' in line] or [0])
                lines[at] = lines[at].replace('log 1', 'log 2') if rng.random() < 0.5 else lines[at].replace(' u', ' v')
            elif kind < 0.6:
                lines = [line for line in lines if not line.startswith('box')]
            try:
                other = maker('\n'.join(lines), level=one.recorder.level, every=one.recorder.every, names=one.recorder.names)
                if len(pairs_of(one, other)) > 60:
                    continue
            except ValueError:
                continue
            told = self.told_of(one, other)
            word = told[0] if told[0] == 'same' else len(log_of((one, other)[told[1]], told[2]))
            found[word] = found.get(word, 0) + 1
        self.assertGreater(found['same'], 50)
        self.assertGreater(len(found), 3, found)

    def test_runs_beside(self):
        """The logs of all runs that are over, of programs with few of them."""
        words = {'same': 0, 'other': 0}
        rng = random.Random(62)
        while min(words.values()) < 20:
            text = generate.made(rng).program.text
            pair = [maker(text, **generate.recorder(rng)) for _ in range(2)]
            runs = [brute.all_runs(made, 150) for made in pair]
            if None in runs:
                continue
            logs = [{tuple([entry for entry in entries if entry is not None]) for _, stands, entries in found
                     if state(made, stands[-1]) != 'open'} for made, found in zip(pair, runs)]
            told = self.told_of(*pair)
            self.assertIs(told[0] == 'same', logs[0] == logs[1])
            if told[0] == 'other':
                self.same(len(log_of(pair[told[1]], told[2])), min(map(len, logs[0] ^ logs[1])))
            words[told[0]] += 1

    def test_limit(self):
        # 1 pair at first, 16 behind u, 64 behind v and each w; then 32, and 3 or 4.
        text = ('cell x 3\ncell y 3\ncell z 3\nhand h\n  ask x\n  ask y\n  ask z\n  log 1 u x y\n  log 1 v z' + '\n  log 1 w' * 6
                + '\n  if x < 2\n    log 1 w\n  if x = 0\n    if y = 0\n      if z {}\n        log 1 w')
        just, beyond = [maker(text.format(sign)) for sign in ('< 3', '= z')]
        self.same([len(pairs_of(made, made)) for made in (just, beyond)], [500, 501])
        self.same([same_logs(just, just)[0], len(same_logs(just, just)[1])], ['same', 500])
        self.told(TooMany, 500, same_logs, beyond, beyond)
        self.assertIs(shows_same(beyond, beyond, ('same', tuple(sorted(pairs_of(beyond, beyond))))), True)

    def test_limit_where_they_part(self):
        text = 'cell x 3\ncell y 3\ncell z 3\nhand h\n  ask x\n  ask y\n  ask z\n  log 1 u x y\n  log 1 v z' + '\n  log 1 w' * 8
        many, none = maker(text), maker('hand h\n  stop')
        self.told(TooMany, 500, same_logs, many, none)
        self.told(TooMany, 500, same_logs, none, many)
        self.assertIs(shows_same(none, many, ('other', 0, (do(0),))), True)
        self.assertIs(shows_same(many, none, ('other', 1, (do(0),))), True)
        self.assertIs(shows_same(many, none, ('same', ())), False)
        self.assertIs(shows_same(many, many, ('same', tuple(sorted(pairs_of(many, many))))), True)


class TestShows(Case):
    one, other = SET, ONE

    def shows(self, value):
        return self.unchanged(shows_same, self.one, self.other, value)

    def test_one_thing_otherwise(self):
        word, table = same_logs(self.one, self.other)
        self.assertIs(self.shows((word, table)), True)
        self.same(len(table), 2)
        for wrong in (table[1:], table[:1], (), table[::-1], (*table, table[-1]), list(table), (table[0], list(table[1])),
                      tuple([pair[::-1] for pair in table]), (table[0], (table[1][0][::-1], table[1][1])),
                      (table[0], (table[1][0][:1], table[1][1])), (table[0], (table[1][0], ())), (table[0], (*table[1], ())),
                      (table[0], (table[1][0] + table[1][0][-1:], table[1][1]))):
            self.assertIs(self.shows((word, wrong)), False)
        for value in ((word, table, ()), ('other', table), [word, table], (word,), ('sames', table), (word, 0, table)):
            self.assertIs(self.shows(value), False)
        for value in ODD:
            self.assertIs(self.shows(value), False)
            self.assertIs(self.shows((word, value)), False)
            self.assertIs(self.shows((value, table)), False)
            self.assertIs(self.shows((word, (value, *table))), value == ((), ()))
            self.assertIs(self.shows((word, ((value, ()), *table))), value == ())

    def test_any_stands(self):
        """Further pairs of any stands, perhaps of none, are let if with them the table is closed and none parts."""
        word, table = same_logs(self.one, self.other)
        over, start = (((),), (), (), ((),), 0, 0, False), (((1,),), (), (), ((),), 0, 0, False)
        done = [(((),), (value,), (), ((),), 0, 0, False) for value in (0, 1)]
        logs = [(((3,),), (value,), (), ((),), 0, 0, False) for value in (0, 1)]
        for more, good in ((((), ()),), True), ((((done[0],), (over,)),), True), (((tuple(done), (over,)),), True), \
                ((((done[0],), ()),), False), ((((), (over,)),), False), ((((logs[0],), (start,)),), False), \
                ((((logs[0],), (start,)), ((done[0],), (over,))), True), ((((logs[1],), (start,)),), True), \
                (((tuple(logs), (start,)),), False), (((tuple(logs), (start,)), (tuple(done), (over,))), True), \
                ((((logs[0],), ()), ((done[0],), ())), False), (((tuple(done[::-1]), (over,)),), False), \
                ((((*done, logs[0]), (over, start)), ((done[0],), (over,))), True), \
                ((((*done, logs[1]), (over, start)),), True):
            value = (word, tuple(sorted({*table, *more})))
            self.assertIs(is_table(self.one, self.other, value[1]), good)
            self.assertIs(self.shows(value), good)

    def test_other(self):
        self.one, self.other = ASK, ONE
        for value, good in ((('other', 0, (do(0, 1), do(0))), True), (('other', 1, (do(0, 1), do(0))), False),
                            (('other', 0, (do(0, 1),)), False), (('other', 0, (do(0, 0), do(0), do(0))), False),
                            (('other', 1, (do(0),)), False), (('other', 0, [do(0, 1), do(0)]), False),
                            (('other', 0, ()), False), (('other', False, (do(0, 1), do(0))), False),
                            (('other', 2, (do(0, 1), do(0))), False), (('other', -2, (do(0, 1), do(0))), False),
                            (('other', 0, (do(0, 1), do(0), do(0))), False), (('same', 0, (do(0, 1), do(0))), False),
                            (('other', 0), False), (('other', 0, (do(0, 1), do(0)), ()), False)):
            self.assertIs(self.shows(value), good)
        for value in ODD:
            self.assertIs(self.shows(('other', 0, value)), False)
            self.assertIs(self.shows(('other', value, (do(0, 1), do(0)))), value == 0 and value is not False)

    def test_longer_than_needed(self):
        self.one, self.other = maker('cell x 1\nhand h\n  while x = 0\n    log 1 u\n    ask x'), LOOP
        self.same(len(log_of(self.one, same_logs(self.one, self.other)[2])), 1)
        longer = (do(0), do(0), do(0, 0), do(0), do(0), do(0, 1), do(0))
        self.assertIs(self.shows(('other', 0, longer)), True)
        self.assertIs(self.shows(('other', 0, longer[:-1])), False)
        # Of a run that waits in a box nothing is over.
        boxed = maker('box 1\nhand h\n  log 1 u')
        self.assertIs(shows_same(boxed, maker('hand h\n  stop'), ('other', 0, (do(0), write(0)))), True)
        self.assertIs(shows_same(boxed, maker('hand h\n  stop'), ('other', 0, (do(0),))), False)

    def test_random(self):
        rng = random.Random(63)
        found = {True: 0, False: 0}
        tried = 0
        while tried < 40:
            one, other = [generate.chatty(rng) for _ in range(2)] if rng.random() < 0.4 else [generate.talker(rng)] * 2
            if len(pairs_of(one, other)) > 20:
                continue
            tried += 1
            value = same_logs(one, other)
            for wrong in near(value, rng, 60):
                good = isinstance(wrong, tuple) and len(wrong) > 1 and repr(wrong[0]) == repr(value[0])
                if good and value[0] == 'same':
                    good = len(wrong) == 2 and is_table(one, other, wrong[1])
                elif good:
                    good = len(wrong) == 3 and repr(wrong[1]) == repr(value[1]) and self.is_run((one, other)[value[1]], wrong[2])
                    good = good and not has_log((other, one)[value[1]], log_of((one, other)[value[1]], wrong[2]))
                self.assertIs(shows_same(one, other, wrong), good)
                found[good] += 1
        self.assertGreater(found[False], 1000)

    def is_run(self, made, run):
        try:
            return state(made, led(made, run)) != 'open'
        except ValueError:
            return False


class TestValues(Case):
    def test_tables_of_tiny(self):
        tiny = maker(TINY)
        self.same(same_logs(tiny, tiny)[0], 'same')


if __name__ == '__main__':
    unittest.main()
