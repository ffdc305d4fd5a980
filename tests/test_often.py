import random
import unittest

from loggedruns.covers import cover
from loggedruns.errors import BadEnd, BadSheet, NoLabel, TooMany
from loggedruns.makers import Maker
from loggedruns.often import fewest, most, shows_endless, shows_fewest, shows_most
from loggedruns.programs import Program
from loggedruns.sheets import fits
from loggedruns.stands import first_stand
from tests import brute, generate, plain
from tests.common import AGAIN, GATE, ODD, TINY, Case, do, gone, maker, write
from tests.test_covers import BAD_ENDS, BAD_SHEETS, BEYOND, JUST, stand

GO, HOT, DONE, U = ('h', 'go', ()), ('h', 'hot', ()), ('one', 'done', ()), ('h', 'u', ())
ALL = ((None,),)
LOOP = 'cell x 1\nhand h\n  a: ask x\n  b: while x > 0\n    c: log 1 u\n    d: ask x\n  e: stop'
NO_LABELS = (*[value for value in ODD if value != 'a'], 'go', 'h', 'a:', ('a',), ['a'], 'A')


def labelled(case, row):
    """A maker and sheet with the label a at the first row of this kind."""
    made, sheet = case
    text = made.program.text.replace(f'  {row}', f'  a: {row}', 1)
    return Maker(Program(text), made.recorder), sheet


def done(made, run, label):
    """How often a run does a row."""
    stands = [gone(made, *run[:k]) for k in range(len(run))]
    return [plain.line_done(one, step) for one, step in zip(stands, run)].count(made.program.line(label))


def links(made, sheet, pair, label):
    """Where a pair leads: each as (whether the row is done, pair)."""
    line = made.program.line(label)
    found = [(False, (pair[0], spot)) for spot in brute.spots_passed(sheet, pair[1])]
    for step in brute.steps(made, pair[0]):
        behind, entry = brute.after(made, pair[0], step)
        spots = [pair[1]] if entry is None else brute.spots_behind(sheet, pair[1], entry)
        found.extend([(plain.line_done(pair[0], step) == line, (behind, spot)) for spot in spots])
    return found


def are_fewest(made, sheet, label, number, value, end=None):
    """The words of the document about heights of fewest, of tuples of (stand, spot, height) that ascend."""
    heights = {member[:2]: member[2] for member in value}
    if heights.get(brute.first_pair(made, sheet), 1) > 0:
        return False
    for pair in heights:
        for counts, target in links(made, sheet, pair, label):
            if target not in heights or heights[target] > heights[pair] + counts:
                return False
    return all(heights[pair] >= number for pair in brute.closers(made, sheet, end, heights))


def are_most(made, sheet, label, number, value, end=None):
    """Likewise of most."""
    heights = {member[:2]: member[2] for member in value}
    if heights.get(brute.first_pair(made, sheet), -1) < 0 or min(heights.values()) < -1:
        return False
    for pair in heights:
        for counts, target in links(made, sheet, pair, label):
            if target not in heights:
                return False
            if heights[target] != -1 and (heights[pair] == -1 or heights[target] < heights[pair] + counts):
                return False
    return all(0 <= heights[pair] <= number for pair in brute.closers(made, sheet, end, heights))


class TestExample(Case):
    def test_gate(self):
        gate = maker(GATE)
        self.same([fewest(gate, ALL, 'b')[0], most(gate, ALL, 'b')[0]], [0, 4])


class TestNumbers(Case):
    def numbers(self, made, sheet, label, end=None):
        """The two numbers, looked at with all that shows them; endless is told by its word."""
        least, greatest = fewest(made, sheet, label, end=end), most(made, sheet, label, end=end)
        if least is None:
            self.assertIsNone(greatest)
            return None
        self.looked_at(made, sheet, label, end, least, are_fewest, shows_fewest, -1)
        if greatest[0] == 'endless':
            self.same(len(greatest), 4)
            self.assertIs(shows_endless(made, sheet, label, greatest[1:], end=end), True)
            self.assertTrue(fits(made, sheet, greatest[1], end=end))
            return (least[0], 'endless')
        self.looked_at(made, sheet, label, end, greatest, are_most, shows_most, 1)
        return (least[0], greatest[0])

    def looked_at(self, made, sheet, label, end, told, plainly, shows, way):
        number, run, heights = told
        self.assertIs(fits(made, sheet, run, end=end), True)
        self.assertEqual(done(made, run, label), number)
        self.assertEqual(tuple([member[:2] for member in heights]), cover(made, sheet, end=end))
        for other in range(number - 2, number + 3):
            fine = (other - number) * way >= 0
            self.assertIs(plainly(made, sheet, label, other, heights, end), fine)
            self.assertIs(shows(made, sheet, label, other, heights, end=end), fine)
        self.assertIs(shows(maker=made, sheet=sheet, label=label, number=number, value=heights, end=end), True)

    def test_ends(self):
        made = maker(TINY)
        for sheet, label, end, expected in (
                (ALL, 'a', None, (0, 1)), (ALL, 'a', 'over', (1, 1)), (ALL, 'a', 'open', (0, 1)),
                (ALL, 'b', None, (0, 1)), (ALL, 'b', 'over', (0, 1)), (ALL, 'c', 'open', (0, 0)),
                (ALL, 'c', None, (0, 1)), (ALL, 'c', 'over', (1, 1)),
                (((GO,),), 'b', None, (0, 0)), (((GO,),), 'c', None, (0, 1)), (((GO, HOT),), 'b', None, (1, 1)),
                (((GO, HOT),), 'b', 'over', (1, 1)), (((GO, HOT),), 'c', 'open', (0, 0)), (((),), 'a', None, (0, 1)),
                (((),), 'b', None, (0, 0)), (((),), 'b', 'over', None), (((HOT,),), 'a', None, None),
                (((3,),), 'a', 'open', None), (((2,), (None, HOT)), 'b', None, (1, 1)), (((HOT,), (1,)), 'b', None, None)):
            self.same(self.numbers(made, sheet, label, end), expected)

    def test_never_done(self):
        made = maker('cell x 1\nhand h\n  if x > 0\n    a: log 1 u\n  stop\n  b: log 1 v\nhand k\n  c: set x 1')
        for label in 'abc':
            self.same(self.numbers(made, ALL, label), (0, 0))
            self.same(self.numbers(made, ((),), label, 'over'), (0, 0))
            self.assertIsNone(self.numbers(made, ((1,),), label))

    def test_done_in_all_runs(self):
        made = maker('hand h\n  a: log 1 u\n  a2: stop'.replace('a2', 'b'))
        self.same(self.numbers(made, ((1,),), 'a'), (1, 1))
        self.same(self.numbers(made, ((1,),), 'b'), (0, 1))
        made = maker('hand h\n  a: log 1 u', level=3)
        self.same(self.numbers(made, ((),), 'a'), (0, 1))
        self.same(self.numbers(made, ((),), 'a', 'over'), (1, 1))

    def test_done_by_faults(self):
        made = maker('cell x 1\nkeep y 1\nagain 2\nhand h\n  if y = 0\n    try\n      a: add x -1\n    catch\n      ask y\n'
                     '  b: fail w')
        self.same(self.numbers(made, ALL, 'a'), (0, 3))
        self.same(self.numbers(made, ALL, 'b', 'over'), (3, 3))
        self.same(self.numbers(made, ALL, 'a', 'over'), (1, 3))
        made = maker('hand h\n  a: call p\npart p\n  b: call q\npart q\n  c: call p')
        for label in 'abc':
            self.same(self.numbers(made, ALL, label, 'over'), (1, 1))

    def test_falls_and_beginnings_anew(self):
        made = maker('cell x 1\nbox 1\nagain 1\nhand h\n  a: log 1 u\n  ask x\n  if x = 0\n    b: fail w\n  log 1 v')
        self.same(self.numbers(made, ((U, U),), 'a'), (2, 2))
        self.same(self.numbers(made, ((U,),), 'a'), (1, 2))
        self.same(self.numbers(made, ((U, ('h', 'v', ())),), 'b'), (0, 1))
        self.same(self.numbers(made, ((None,),), 'b', 'over'), (0, 2))

    def test_parts_that_two_hands_call(self):
        made = maker('cell x 1\nhand one\n  start two\n  call p\nhand two\n  call p\npart p\n  a: log 1 u')
        self.same(self.numbers(made, ALL, 'a'), (0, 2))
        self.same(self.numbers(made, ALL, 'a', 'over'), (2, 2))
        self.same(self.numbers(made, ((('two', 'u', ()),),), 'a'), (1, 1))
        made = maker('hand one\n  start two\n  call p\nhand two\n  call p\npart p\n  a: log 1 u\n  b: call q\npart q\n'
                     '  c: log 1 v')
        self.same(self.numbers(made, ((4,),), 'c'), (2, 2))
        self.same(self.numbers(made, ((3,),), 'c'), (1, 1))
        self.same(self.numbers(made, ((3,),), 'b'), (1, 2))

    def test_loops_that_end(self):
        made = maker('cell x 3\nhand h\n  ask x\n  a: while x > 0\n    b: add x -1\n    log 2 u x')
        self.same(self.numbers(made, ALL, 'a', 'over'), (1, 4))
        self.same(self.numbers(made, ALL, 'b', 'over'), (0, 3))
        self.same(self.numbers(made, ((2,),), 'b'), (2, 3))
        self.same(self.numbers(made, ((2,),), 'b', 'over'), (2, 2))

    def test_loops_without_an_end(self):
        made = maker(LOOP)
        self.same(self.numbers(made, ALL, 'c'), (0, 'endless'))
        self.same(self.numbers(made, ALL, 'b', 'over'), (1, 'endless'))
        self.same(self.numbers(made, ALL, 'a'), (0, 1))
        self.same(self.numbers(made, ALL, 'e', 'over'), (1, 1))
        for many in range(1, 4):
            self.same(self.numbers(made, ((many,),), 'c'), (many, many))
            self.same(self.numbers(made, ((many,),), 'd', 'open'), (many - 1, many))
            self.same(self.numbers(made, ((many,), (None, U)), 'b', 'over'), (many + 1, many + 1))
        self.same(self.numbers(made, ((1, None, 1),), 'c'), (2, 'endless'))
        self.same(self.numbers(made, ((1, None, 1), (2, None)), 'c'), (2, 'endless'))
        self.same(self.numbers(made, ((1, None, 1), (3,)), 'c'), (3, 3))
        made = maker('cell x 1\nhand h\n  while x = 0\n    a: set x 0\n    b: ask x\n  c: log 1 u')
        for sheet in (ALL, ((),), ((U,),)):
            self.same(self.numbers(made, sheet, 'a'), (1 if sheet == ((U,),) else 0, 'endless'))
        self.same(self.numbers(made, ((U,),), 'b'), (1, 'endless'))
        self.same(self.numbers(made, ((),), 'c'), (0, 0))
        self.assertIsNone(self.numbers(made, ((),), 'c', 'over'))

    def test_a_loop_from_which_no_run_fits(self):
        made = maker('cell x 1\nhand h\n  ask x\n  while x > 0\n    a: set x 1\n  b: log 1 u')
        self.same(self.numbers(made, ((U,),), 'a'), (0, 0))
        self.same(self.numbers(made, ((),), 'a'), (0, 'endless'))
        self.same(self.numbers(made, ALL, 'a', 'over'), (0, 0))
        self.same(self.numbers(made, ALL, 'a', 'open'), (0, 'endless'))

    def test_stuck_and_boxes(self):
        made = maker('lock l\nbox 1\nhand one\n  start two\n  a: take l\n  b: log 1 u\n  c: log 1 v\nhand two\n  d: take l')
        self.same(self.numbers(made, ((2,),), 'a'), (1, 1))
        self.same(self.numbers(made, ((),), 'b'), (0, 1))
        self.same(self.numbers(made, ((),), 'c'), (0, 0))
        self.same(self.numbers(made, ((),), 'd', 'over'), (1, 1))
        self.same(self.numbers(made, ((),), 'a', 'over'), (0, 0))

    def test_limit(self):
        just, sheet = labelled(JUST, 'ask y')
        self.same(len(fewest(just, sheet, 'a') or ()), 0)
        self.assertIsNone(most(just, sheet, 'a'))
        heights = tuple([(*pair, 0) for pair in cover(just, sheet)])
        self.assertIs(shows_fewest(just, sheet, 'a', 99, heights), True)
        beyond, sheet = labelled(BEYOND, 'log 1 u')
        for deed in (fewest, most):
            self.told(TooMany, 2000, deed, beyond, sheet, 'a')
            self.told_in_sequence(deed, {'maker': beyond, 'sheet': sheet, 'label': 'a', 'end': None},
                                  [('sheet', (), BadSheet), ('label', 'q', NoLabel), ('end', 'x', BadEnd)])
        # Never by what looks at values.
        for deed in (shows_fewest, shows_most):
            self.assertIs(deed(beyond, sheet, 'a', 0, heights), False)
        self.assertIs(shows_endless(beyond, sheet, 'a', ((), 0, 0)), False)


class TestRandom(Case):
    def test_numbers(self):
        fitted = 0
        for rng, made, runs in generate.makers(25, 150, 100):
            sheet = generate.sheet(rng, [entry for entry in rng.choice(runs)[2] if entry is not None])
            for end in (None, 'over', 'open'):
                for label in made.program.labels:
                    line = made.program.line(label)
                    counts = {run: [plain.line_done(one, step) for one, step in zip(stands, run)].count(line)
                              for run, stands in plain.fitted(made, runs, sheet, end)}
                    least, greatest = fewest(made, sheet, label, end=end), most(made, sheet, label, end=end)
                    if not counts:
                        self.same([least, greatest], [None, None])
                        continue
                    fitted += 1
                    self.same([least[0], greatest[0]], [min(counts.values()), max(counts.values())])
                    self.same([counts[least[1]], counts[greatest[1]]], [least[0], greatest[0]])
                    self.looked_at(rng, made, sheet, label, end, least, are_fewest, shows_fewest)
                    self.looked_at(rng, made, sheet, label, end, greatest, are_most, shows_most)
        self.assertGreater(fitted, 200)

    def looked_at(self, rng, made, sheet, label, end, told, plainly, shows):
        number, _, heights = told
        for less in (-1, 0, 1):
            self.assertIs(shows(made, sheet, label, number + less, heights, end=end),
                          plainly(made, sheet, label, number + less, heights, end))
        k = rng.randrange(len(heights))
        self.assertIs(shows(made, sheet, label, number, heights[:k] + heights[k + 1:], end=end), False)
        for change in (-1, 1):
            changed = (*heights[:k], (*heights[k][:2], heights[k][2] + change), *heights[k + 1:])
            self.assertIs(shows(made, sheet, label, number, changed, end=end),
                          plainly(made, sheet, label, number, changed, end))

    def test_loops(self):
        """Of programs with loops: what is endless has a ring, and otherwise heights show that no run is better."""
        words = {'endless': 0, 'greatest': 0}
        rng = random.Random(26)
        for _ in range(150):
            made = generate.looped(rng)
            sheet = rng.choice([ALL, ((),), ((1,),), ((1, None),), ((2,),)])
            for label in made.program.labels[:2]:
                try:
                    told = most(made, sheet, label)
                except TooMany:
                    continue
                if told is None:
                    continue
                if told[0] == 'endless':
                    words['endless'] += 1
                    self.assertIs(shows_endless(made, sheet, label, told[1:]), True)
                else:
                    words['greatest'] += 1
                    self.assertIs(are_most(made, sheet, label, told[0], told[2]), True)
                    self.assertIs(shows_most(made, sheet, label, told[0], told[2]), True)
                    self.same([done(made, told[1], label), fits(made, sheet, told[1])], [told[0], True])
        self.assertGreater(min(words.values()), 10)


class TestHeights(Case):
    """Heights with one thing otherwise; TINY: lines 2 ask, 3 log go, 4 if, 5 log hot, 6 stop."""

    def setUp(self):
        self.made = maker(TINY)
        self.sheet = ((GO, HOT),)

    def looks(self, shows, plainly, number, heights, expected=None, end=None):
        told = shows(self.made, self.sheet, 'b', number, heights, end=end)
        self.assertIs(told, plainly(self.made, self.sheet, 'b', number, heights, end))
        if expected is not None:
            self.assertIs(told, expected)

    def test_least(self):
        (_, _, low), (_, _, high) = fewest(self.made, self.sheet, 'b'), most(self.made, self.sheet, 'b')
        for k in range(len(low)):
            for change in (-2, -1, 1, 2):
                self.looks(shows_fewest, are_fewest, 1, (*low[:k], (*low[k][:2], low[k][2] + change), *low[k + 1:]))
                for number in (0, 1, 2):
                    changed = (*high[:k], (*high[k][:2], high[k][2] + change), *high[k + 1:])
                    self.looks(shows_most, are_most, number, changed)

    def test_dead_ones(self):
        # With the value 0 no run fits any more: all these are dead.
        _, _, heights = most(self.made, self.sheet, 'b')
        dead = [pair for *pair, height in heights if height == -1]
        self.same(dead, [[stand(0, 0), ((1, 0),)], [stand(3, 0), ((0, 0),)], [stand(4, 0), ((1, 0),)],
                         [stand(6, 0), ((1, 0),)]])
        # That all are alive, too, is let; that only what leads to dead ones is, too.
        self.looks(shows_most, are_most, 1, tuple([(*pair, max(height, 0)) for *pair, height in heights]), True)
        for k, (*pair, height) in enumerate(heights):
            changed = (*heights[:k], (*pair, 0 if height == -1 else -1), *heights[k + 1:])
            fine = height == -1 and pair[0] == stand(3, 0)
            self.looks(shows_most, are_most, 1, changed, fine)
            self.looks(shows_most, are_most, 9, changed, fine)
        self.looks(shows_most, are_most, 9, tuple([(*pair, -1) for *pair, _ in heights]), False)
        self.looks(shows_most, are_most, 9, tuple([(*pair, -2 if height < 0 else height) for *pair, height in heights]),
                   False)

    def test_dead_ones_that_close(self):
        self.sheet = ((GO,),)
        _, _, heights = most(self.made, self.sheet, 'b', end='over')
        for k, (*pair, height) in enumerate(heights):
            changed = (*heights[:k], (*pair, -1), *heights[k + 1:])
            self.looks(shows_most, are_most, 9, changed, height == -1, end='over')
        # What is over does not close where the end is open.
        _, _, heights = most(self.made, self.sheet, 'b')
        self.same([height for *_, height in heights], [0] * len(heights))
        changed = tuple([(one, spot, -1 if one == stand(0, 0) else height) for one, spot, height in heights])
        self.looks(shows_most, are_most, 9, changed, True, end='open')
        self.looks(shows_most, are_most, 9, changed, False)

    def test_greater_heights(self):
        _, _, low = fewest(self.made, self.sheet, 'b')
        _, _, high = most(self.made, self.sheet, 'b')
        less = tuple([(*pair, height - 5) for *pair, height in low])
        self.looks(shows_fewest, are_fewest, 1, less, False)
        self.looks(shows_fewest, are_fewest, -4, less, True)
        self.looks(shows_fewest, are_fewest, 0, tuple([(*pair, height + 1) for *pair, height in low]), False)
        more = tuple([(*pair, height + 5 if height >= 0 else -1) for *pair, height in high])
        self.looks(shows_most, are_most, 1, more, False)
        self.looks(shows_most, are_most, 6, more, True)
        self.looks(shows_most, are_most, 5, more, False)

    def test_greater_tables(self):
        low, high = fewest(self.made, self.sheet, 'b')[2], most(self.made, self.sheet, 'b')[2]
        more = (stand(0, 1), ((1, 0),))
        for height in range(-2, 4):
            self.looks(shows_fewest, are_fewest, 1, tuple(sorted([*low, (*more, height)])), True)
            self.looks(shows_most, are_most, 1, tuple(sorted([*high, (*more, height)])), height > -2)
        # Where it closes, its height has to do, though no run comes there.
        more = (stand(4, 0), ((2, 0),)), (stand(6, 0), ((2, 0),)), (stand(0, 0), ((2, 0),))
        for height in range(-1, 4):
            one = [(*pair, height) for pair in more]
            self.looks(shows_fewest, are_fewest, 1, tuple(sorted([*low, *one])), height >= 1)
            self.looks(shows_most, are_most, 1, tuple(sorted([*high, *one])), 0 <= height <= 1)
        # What leads out of the table is none of it.
        self.looks(shows_fewest, are_fewest, 1, tuple(sorted([*low, (*more[0], 1)])), False)
        self.looks(shows_most, are_most, 1, tuple(sorted([*high, (*more[0], 1)])), False)

    def test_members_otherwise(self):
        for shows, heights in ((shows_fewest, fewest(self.made, self.sheet, 'b')[2]),
                               (shows_most, most(self.made, self.sheet, 'b')[2])):
            for k, member in enumerate(heights):
                one, spot, height = member
                bad = [(), (member,) * 2, (list(member),), ((*member, 0),), (member[:2],), ((one, list(spot), height),),
                       ((one, spot, None),), ((one, spot, str(height)),), ((one, spot, (height,)),), (None,),
                       ((spot, one, height),), (member, (one, spot, height + 1))]
                if height in (0, 1):
                    bad.append(((one, spot, bool(height)),))
                for more in bad:
                    changed = (*heights[:k], *more, *heights[k + 1:])
                    self.assertIs(shows(self.made, self.sheet, 'b', 1, changed), False)
                for other in range(k):
                    swapped = list(heights)
                    swapped[k], swapped[other] = swapped[other], swapped[k]
                    self.assertIs(shows(self.made, self.sheet, 'b', 1, tuple(swapped)), False)
            for value in (*ODD, list(heights), (heights,), (1, heights), (*heights, None), (None, *heights)):
                self.assertIs(shows(self.made, self.sheet, 'b', 1, value), False)

    def test_where_no_run_fits(self):
        # Any number is shown by heights of which none closes.
        heights = tuple([(*pair, 0) for pair in cover(self.made, ((HOT,),))])
        for number in (-5, 0, 99):
            self.assertIs(shows_fewest(self.made, ((HOT,),), 'b', number, heights), True)
            self.assertIs(shows_most(self.made, ((HOT,),), 'b', number, heights), True)
        # The first one is not dead.
        dead = tuple([(*pair, -1) for *pair, _ in heights])
        self.assertIs(shows_most(self.made, ((HOT,),), 'b', 0, dead), False)
        alive = tuple([(*pair, 0 if pair[0] == first_stand(self.made) else -1) for *pair, _ in heights])
        self.assertIs(shows_most(self.made, ((HOT,),), 'b', 0, alive), True)


class TestEndless(Case):
    """LOOP: run and ring are a, b, c, d, b, c, d, b, e."""

    def setUp(self):
        self.made = maker(LOOP)
        self.run = (do(0, 1), do(0), do(0), do(0, 1), do(0), do(0), do(0, 0), do(0), do(0))

    def shows(self, *value, sheet=ALL, label='c', **more):
        return shows_endless(self.made, sheet, label, value, **more)

    def test_rings(self):
        stands = [gone(self.made, *self.run[:k]) for k in range(len(self.run) + 1)]
        for first in range(-1, 11):
            for last in range(-1, 11):
                inside = 0 <= first < last <= 9
                fine = inside and stands[first] == stands[last]
                for label in 'abcde':
                    does = inside and any(plain.line_done(stands[k], self.run[k]) == self.made.program.line(label)
                                          for k in range(first, last))
                    self.assertIs(self.shows(self.run, first, last, label=label), bool(fine and does))
        self.assertIs(self.shows(self.run, 1, 4), True)
        self.assertIs(self.shows(self.run, 1, 4, label='a'), False)
        self.assertIs(shows_endless(maker=self.made, sheet=ALL, label='c', value=(self.run, 2, 5), end='over'), True)

    def test_the_run_fits(self):
        self.assertIs(self.shows(self.run, 1, 4, end='over'), True)
        self.assertIs(self.shows(self.run, 1, 4, end='open'), False)
        self.assertIs(self.shows(self.run[:4], 1, 4, end='over'), False)
        self.assertIs(self.shows(self.run[:4], 1, 4, end='open'), True)
        self.assertIs(self.shows(self.run[:3], 1, 4), False)

    def test_the_same_spot(self):
        for sheet, fine in ((((2,),), False), (((U, U),), False), (((None, U),), True), (((U, None),), False),
                            (((1, None),), False), (((None, None),), True), (((None,), (None, 1)), True),
                            (((None,), (2,)), False), (((None, 3),), False)):
            self.assertIs(self.shows(self.run, 1, 4, sheet=sheet), fine)

    def test_spots_behind_other_entries(self):
        """Three entries, one in each round: behind 1, 4 and 7 steps the stand is the same."""
        run = (do(0, 1), *[do(0), do(0), do(0, 1)] * 3, do(0))
        for first, sheet, fine in (
                (4, ((1, None, 1),), True), (4, ((1, None, 2),), False), (4, ((U, None, None, U),), True),
                (4, ((1, None),), True), (4, ((None, 1),), True), (4, ((2, None),), False), (4, ((None, 2),), False),
                (1, ((1, None, 1),), False), (1, ((None, 2),), True), (1, ((None, 3),), False), (1, ((None, 2), (3,)), False),
                (4, ((1, None, 1), (None, 1)), True), (4, ((1, None, 1), (None, 2)), False), (7, ((1, None), (2, None)), True),
                (7, ((1, None), (3,)), False), (7, ((1, None, 1),), False), (4, ((1, None), (2, None)), False),
                (7, ((1, None, 1, None),), True), (7, ((1, None, 2, None),), False), (7, ((None,), (None, 1, None)), True)):
            self.assertIs(self.shows(run, first, first + 3, sheet=sheet), fine, (first, sheet))

    def test_rings_without_entries(self):
        made = maker('cell x 1\nhand h\n  log 1 u\n  while x = 0\n    a: set x 0\n  log 1 v')
        run = (do(0),) * 7
        for sheet in (((U,),), ALL, ((1,),), ((None, 1),)):
            for first, last, fine in ((1, 3, True), (2, 4, True), (1, 5, True), (0, 2, False), (1, 2, False)):
                self.assertIs(shows_endless(made, sheet, 'a', (run, first, last)), fine)
        self.assertIs(shows_endless(made, ((2,),), 'a', (run, 1, 3)), False)

    def test_falls(self):
        made = maker('again 2\nhand h\n  a: fail w')
        run = (do(0), AGAIN, do(0), AGAIN, do(0))
        # How often it began anew is part of the stand.
        for first in range(6):
            for last in range(6):
                self.assertIs(shows_endless(made, ALL, 'a', (run, first, last)), False)
        self.same(most(made, ALL, 'a')[0], 3)

    def test_boxes(self):
        made = maker('cell x 1\nbox 1\nhand h\n  while x = 0\n    a: log 1 u')
        run = (do(0), do(0), write(0), do(0), do(0), write(0))
        for first, last, fine in ((0, 3, True), (1, 4, True), (2, 5, True), (3, 6, True), (0, 6, True), (0, 2, False),
                                  (1, 3, False), (2, 4, False)):
            self.assertIs(shows_endless(made, ALL, 'a', (run, first, last)), fine)
        # What is in the box is part of the stand.
        run = (do(0), do(0), do(0), write(0), do(0), write(0))
        for first, last, fine in ((1, 3, False), (1, 4, True), (3, 4, False), (0, 2, False), (0, 6, True)):
            self.assertIs(shows_endless(made, ALL, 'a', (run, first, last)), fine)

    def test_any_value(self):
        told = most(self.made, ALL, 'c')
        self.assertIs(self.shows(*told[1:]), True)
        for value in (*ODD, told, (self.run, 1), (self.run, 1, 4, 4), [self.run, 1, 4], (list(self.run), 1, 4),
                      (self.run, True, 4), (self.run, 1, None), (self.run, '1', 4), (self.run, (1,), 4),
                      (self.run[1:], 0, 3), ((*self.run, do(0)), 1, 4), ((*self.run[:3], do(0, True), *self.run[4:]), 1, 4),
                      (None, 1, 4), (1, 1, 4), ((None,), 0, 1)):
            self.assertIs(shows_endless(self.made, ALL, 'c', value), False)


class TestWrongValues(Case):
    def test_labels(self):
        made = maker(TINY)
        for value in NO_LABELS:
            for deed in (fewest, most):
                self.told(NoLabel, value, deed, made, ALL, value)
            for deed in (shows_fewest, shows_most):
                self.told(NoLabel, value, deed, made, ALL, value, 1, ())
            self.told(NoLabel, value, shows_endless, made, ALL, value, None)

    def test_in_sequence(self):
        made = maker(TINY)
        for value in BAD_SHEETS:
            self.told(BadSheet, value, fewest, made, value, 'q', end=1)
        for value in BAD_ENDS:
            self.told(BadEnd, value, most, made, ALL, 'a', end=value)
        wrong = [('sheet', [], BadSheet), ('label', 'go', NoLabel), ('end', 'done', BadEnd)]
        good = {'maker': made, 'sheet': ((HOT,),), 'label': 'a', 'end': None}
        for deed in (fewest, most):
            self.told_in_sequence(deed, good, wrong)
        for deed in (shows_fewest, shows_most):
            self.told_in_sequence(deed, {**good, 'number': 0, 'value': None}, wrong)
        self.told_in_sequence(shows_endless, {**good, 'value': None}, wrong)

    def test_nothing_is_changed(self):
        made = maker(LOOP)
        self.unchanged(fewest, made, ALL, 'c')
        self.unchanged(most, made, ((2,),), 'c')
        self.unchanged(most, made, ALL, 'c')
        self.unchanged(shows_most, made, ((2,),), 'c', 2, most(made, ((2,),), 'c')[2])


if __name__ == '__main__':
    unittest.main()
