import random
import unittest

from loggedruns.entries import entries
from loggedruns.errors import BadQuestion, TooMany
from loggedruns.watchers import shows_watcher, watcher
from tests import generate, plainlate
from tests.common import GATE, ODD, TINY, Case, maker, near

ASKED = ('asked', 'a', 1)
GO, HOT = ('h', 'go', ()), ('h', 'hot', ())


class Walked:
    """The sets of (stand, memory) along all logs, as frozensets."""

    def __init__(self, made, question):
        self.made, self.question, self.nodes = made, question, plainlate.Nodes(made, question)
        self.start = self.quiet({plainlate.first(made, question)})

    def quiet(self, nodes):
        found = set(nodes)
        while True:
            more = {there for node in found for _, entry, there in self.nodes.moves(node) if entry is None} - found
            if not more:
                return frozenset(found)
            found |= more

    def behind(self, nodes):
        found = {}
        for node in nodes:
            for _, entry, there in self.nodes.moves(node):
                if entry is not None:
                    found.setdefault(entry, set()).add(there)
        return {entry: self.quiet(found[entry]) for entry in found}

    def word(self, nodes):
        truths = {plainlate.is_true(self.made, self.question, node) for node in nodes}
        return {frozenset({True}): 'always', frozenset({False}): 'never'}.get(frozenset(truths), 'sometimes')

    def sets(self):
        found, queue = {}, [self.start]
        while queue:
            one = queue.pop()
            if one not in found:
                found[one] = self.behind(one)
                queue.extend(found[one].values())
        return found

    def fewest(self):
        """How many states are enough: how many of the sets some log parts from each other."""
        sets = self.sets()
        parted = {(one, other) for one in sets for other in sets
                  if self.word(one) != self.word(other) or set(sets[one]) != set(sets[other])}
        while True:
            more = {(one, other) for one in sets for other in sets if (one, other) not in parted
                    and any((sets[one][entry], sets[other][entry]) in parted for entry in sets[one])}
            if not more:
                break
            parted |= more
        kinds = []
        for one in sets:
            if all((one, other) in parted for other in kinds):
                kinds.append(one)
        return len(kinds)

    def is_right(self, value):
        """Whether (words, moves), of good form, are right."""
        words, moves = value
        table = {(state, entry): target for state, entry, target in moves}
        seen, queue = set(), [(0, self.start)]
        while queue:
            state, ones = pair = queue.pop()
            if pair in seen:
                continue
            seen.add(pair)
            behind = self.behind(ones)
            if words[state] != self.word(ones) or {entry for at, entry in table if at == state} != set(behind):
                return False
            queue.extend([(table[(state, entry)], there) for entry, there in behind.items()])
        return True


def has_form(made, value):
    if not isinstance(value, tuple) or len(value) != 2 or not all(isinstance(part, tuple) for part in value):
        return False
    words, moves = value
    if not words or not all(isinstance(word, str) and word in ('always', 'never', 'sometimes') for word in words):
        return False
    good = [repr(entry) for entry in entries(made)]
    for move in moves:
        if not isinstance(move, tuple) or len(move) != 3 or repr(move[1]) not in good:
            return False
        if not all(type(state) is int and 0 <= state < len(words) for state in (move[0], move[2])):
            return False
    return all(one[:2] < other[:2] for one, other in zip(moves, moves[1:]))


def read(value, log):
    """The state behind a log, None if it cannot be read."""
    state = 0
    for entry in log:
        state = dict([((at, got), target) for at, got, target in value[1]]).get((state, entry))
        if state is None:
            return None
    return state


def read_from(value, state, log):
    table = {(at, got): target for at, got, target in value[1]}
    for entry in log:
        state = table.get((state, entry))
        if state is None:
            return None
    return state


class WatcherCase(Case):
    def watch(self, made, question):
        """What is told, compared with a plain walk."""
        told = words, moves, partings = self.unchanged(watcher, maker=made, question=question)
        walked = Walked(made, question)
        self.assertIs(shows_watcher(maker=made, question=question, value=told[:2]), True)
        self.assertTrue(walked.is_right(told[:2]))
        self.same(len(words), walked.fewest())
        # Numbered as they are met.
        met = [0]
        for state in range(len(words)):
            self.assertIn(state, met)
            for at, _, target in moves:
                if at == state and target not in met:
                    met.append(target)
        self.same(met, list(range(len(words))))
        self.same(moves, tuple(sorted(moves)))
        self.same([parting[:2] for parting in partings],
                  [(one, other) for one in range(len(words)) for other in range(one + 1, len(words))])
        for one, other, log in partings:
            left, right = read_from(told, one, log), read_from(told, other, log)
            self.assertFalse(left is None and right is None)
            self.assertTrue(left is None or right is None or words[left] != words[right])
        return told


class TestExample(WatcherCase):
    def test_tiny(self):
        tiny = maker(TINY)
        self.same(self.watch(tiny, ASKED)[:2],
                  (('sometimes', 'sometimes', 'always'), ((0, GO, 1), (1, HOT, 2))))


class TestWatcher(WatcherCase):
    def test_open_runs_too(self):
        self.same(self.watch(maker(TINY), ('ended', 'done'))[0], ('never', 'sometimes', 'sometimes'))
        self.same(self.watch(maker(TINY), ('did', 'b', 1))[0], ('never', 'never', 'always'))
        self.same(self.watch(maker('hand h\n  a: log 1 u'), ('did', 'a', 1)),
                  (('never', 'always'), ((0, ('h', 'u', ()), 1),), ((0, 1, ()),)))

    def test_one_state(self):
        self.same(self.watch(maker('cell x 1\nhand h\n  a: ask x'), ASKED), (('sometimes',), (), ()))
        self.same(self.watch(maker('cell x 1\nhand h\n  while x = x\n    log 1 u'), ('fell', 1)),
                  (('never',), ((0, ('h', 'u', ()), 0),), ()))

    def test_alike_but_for_what_can_be_read(self):
        told = self.watch(maker('hand h\n  log 1 u\n  log 1 u\n  log 1 v'), ('fell', 1))
        u, v = ('h', 'u', ()), ('h', 'v', ())
        self.same(told[:2], (('never',) * 4, ((0, u, 1), (1, u, 2), (2, v, 3))))
        self.assertTrue(all(log for _, _, log in told[2]))

    def test_gate(self):
        gate = maker(GATE)
        for question in (('asked', 'a', 2), ('did', 'b', 2), ('is', 'x', 2), ('not', ('did', 'd', 1)), ('ended', 'open')):
            self.watch(gate, question)

    def test_random(self):
        many = []
        for rng, made, _ in generate.makers(51, 60, 120):
            many.append(len(self.watch(made, generate.question(rng, made.program, deep=1))[0]))
        rng = random.Random(52)
        while len(many) < 180:
            made = [generate.looped, generate.talker, generate.chatty][len(many) % 3](rng)
            question = generate.question(rng, made.program, deep=1)
            try:
                states = len(watcher(made, question)[0])
            except TooMany:
                continue
            if states > 2 and len(Walked(made, question).sets()) < 40:
                many.append(len(self.watch(made, question)[0]))
        self.assertGreater(len([one for one in many if one > 4]), 20)

    # 1 set at first, 16 behind u, 64 behind v, 64 behind w; then 16, three times, and 4.
    rows = ('cell x 3\ncell y 3\ncell z 3\nhand h\n  ask x\n  ask y\n  ask z\n  log 1 u x y\n  log 1 v z\n  log 1 w\n'
            '  if x = 0\n    log 1 w\n    log 1 w\n    log 1 w\n    if y = 0\n      log 1 w\n')

    def test_limit(self):
        just, beyond = [maker(f'{self.rows}      if z {sign}\n        log 1 w') for sign in ('< 3', '= z')]
        for made, many in ((just, 200), (beyond, 201)):
            self.same(len(Walked(made, ('fell', 1)).sets()), many)
        self.same(len(watcher(just, ('fell', 1))[0]), Walked(just, ('fell', 1)).fewest())
        for question in (('fell', 1), ('is', 'x', 1)):
            self.told(TooMany, 200, watcher, beyond, question)
        self.told(BadQuestion, ('did', 'a', 1), watcher, beyond, ('did', 'a', 1))
        # With memories there are more of them.
        memory = maker(self.rows.partition('    if y')[0].replace('  ask x', '  a: ask x\n  log 1 u x\n  ask x').rstrip())
        self.same(len(watcher(memory, ('fell', 1))[0]) < 200, True)
        self.told(TooMany, 200, watcher, memory, ('asked', 'a', 2))

    def test_shows_beyond_the_limit(self):
        beyond = maker(f'{self.rows}      if z = z\n        log 1 w')
        moves = [(0, entry, 1 if entry[2][0] else 2 if entry[2][1] else 3) for entry in entries(beyond) if entry[1] == 'u']
        last = {1: 1, 2: 4, 3: 6}
        states = 4
        for state, many in last.items():
            line = [state, *range(states, states + many + 1)]
            states += many + 1
            for at, (one, other) in enumerate(zip(line, line[1:])):
                moves.extend([(one, entry, other) for entry in entries(beyond) if entry[1] == ('v' if at == 0 else 'w')])
        right = (('never',) * states, tuple(sorted(moves)))
        self.assertIs(shows_watcher(beyond, ('fell', 1), right), True)
        for k in range(len(right[1])):
            self.assertIs(shows_watcher(beyond, ('fell', 1), (right[0], right[1][:k] + right[1][k + 1:])), False)
        for k in range(states):
            words = ('never',) * k + ('sometimes',) + ('never',) * (states - k - 1)
            self.assertIs(shows_watcher(beyond, ('fell', 1), (words, right[1])), False)


class TestShows(Case):
    made = maker(TINY)
    words, moves = ('sometimes', 'sometimes', 'always'), ((0, GO, 1), (1, HOT, 2))

    def shows(self, value):
        return self.unchanged(shows_watcher, self.made, ASKED, value)

    def test_more_states(self):
        self.assertIs(self.shows((self.words, self.moves)), True)
        # States that are never met, with any word and any moves.
        for word in ('always', 'never', 'sometimes'):
            for more in ((), ((3, GO, 3),), ((3, GO, 0), (3, HOT, 3))):
                self.assertIs(self.shows(((*self.words, word), (*self.moves, *more))), True)
        self.assertIs(self.shows(((*self.words, 'ever'), self.moves)), False)
        self.assertIs(self.shows(((*self.words, 'never'), (*self.moves, (3, GO, 4)))), False)
        self.assertIs(self.shows(((*self.words, 'never'), (*self.moves, (3, ('h', 'go', (1,)), 3)))), False)
        # Of two states that are alike each is right.
        loop = maker('cell x 1\nhand h\n  while x = x\n    log 1 u')
        u = ('h', 'u', ())
        for moves, good in ((((0, u, 1), (1, u, 0)), True), (((0, u, 1), (1, u, 2), (2, u, 1)), True),
                            (((0, u, 0),), True), (((0, u, 1),), False), (((0, u, 1), (1, u, 2)), False)):
            self.assertIs(shows_watcher(loop, ('fell', 1), (('never',) * 3, moves)), good)

    def test_one_thing_otherwise(self):
        words, moves = self.words, self.moves
        for wrong in (('sometimes', 'sometimes', 'sometimes'), ('always', 'sometimes', 'always'), words[:2], words[1:],
                      list(words), (), (*words, 1), (*words, ()), ('sometimes', 'never', 'always')):
            self.assertIs(self.shows((wrong, moves)), False)
        for wrong in (moves[:1], moves[1:], moves[::-1], (*moves, moves[1]), ((0, GO, 1), (0, GO, 1), (1, HOT, 2)),
                      ((0, GO, 1), (0, GO, 2), (1, HOT, 2)), ((0, GO, 0), (0, GO, 1), (1, HOT, 2)), (*moves, (2, HOT, 2)), ((0, GO, 2), (1, HOT, 2)),
                      ((0, GO, 1), (1, HOT, 3)), ((0, GO, 1), (1, HOT, -1)), ((False, GO, 1), (1, HOT, 2)),
                      ((0, GO, True), (1, HOT, 2)), ((0, list(GO), 1), (1, HOT, 2)), list(moves), (), ((0, GO, 1), (1, GO, 2)),
                      ((0, ('h', 'go', []), 1), (1, HOT, 2)), ((0, (None, 'go', ()), 1), (1, HOT, 2)), (*moves, ()),
                      ((0, GO, 1), (0, HOT, 1), (1, HOT, 2))):
            self.assertIs(self.shows((words, wrong)), False, wrong)
        self.assertIs(self.shows((words, moves, ())), False)
        self.assertIs(self.shows([words, moves]), False)
        for value in ODD:
            self.assertIs(self.shows(value), False)
            self.assertIs(self.shows((value, moves)), False)
            self.assertIs(self.shows((words, value)), False)
            self.assertIs(self.shows((words, (value, *moves))), False)
            self.assertIs(self.shows((words, ((0, value, 1), moves[1]))), False)
        self.assertIs(shows_watcher(maker(TINY, names=False), ASKED, (words, moves)), False)

    def test_bad_question(self):
        for value in (*ODD, ('did', 'z', 1), ('asked', 'a', 2)):
            self.told(BadQuestion, value, watcher, self.made, value)
            self.told(BadQuestion, value, shows_watcher, maker=self.made, question=value, value=(self.words, self.moves))

    def test_random(self):
        rng = random.Random(53)
        found = {True: 0, False: 0}
        makers = [generate.talker(rng, k % 2 == 0) for k in range(30)]
        for made in makers:
            question = generate.fact(rng, made.program)
            try:
                words, moves, _ = watcher(made, question)
            except TooMany:
                continue
            walked = Walked(made, question)
            # With a further state in the place of one, for some of the moves to it.
            one = rng.randrange(len(words))
            more = tuple([(len(words), entry, target) for at, entry, target in moves if at == one])
            changed = tuple([(at, entry, len(words) if target == one and rng.random() < 0.5 else target)
                             for at, entry, target in moves])
            for value in ((words, moves), ((*words, words[one]), (*changed, *more))):
                self.assertIs(shows_watcher(made, question, value), True)
                for other in near(value, rng, 60):
                    good = has_form(made, other) and walked.is_right(other)
                    self.assertIs(shows_watcher(made, question, other), good)
                    found[good] += 1
        self.assertGreater(min(found.values()), 20)


if __name__ == '__main__':
    unittest.main()
