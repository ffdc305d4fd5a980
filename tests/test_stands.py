"""The forms of stands, the steps that are none, runs that are none, and how runs end."""

import unittest

from loggedruns.entries import log_of
from loggedruns.errors import BadRun, NoStep
from loggedruns.stands import after, first_stand, is_stand, led, state, steps
from tests.common import AGAIN, GATE, ODD, TINY, Case, do, gone, maker, strict, write

RICH = ('cell x 2\nkeep y 1\nlock l\nbox 2\nagain 1\nhand one\n  try\n    call p\n  catch\n    stop\n  log 1 u x\n'
        '  start two\nhand two\n  if x = 1\n    log 2 v y\n  call q\npart p\n  take l\n  call q\npart q\n'
        '  log 1 w y\n  ask x\n  fail z')
FIRST = (((7,), ()), (0, 0), (-1,), ((), ()), 0, 0, False)

# Which odd values can stand in each part of a stand of RICH, strictly told.
FINE = (('tuple(tuple(),tuple())',), (), ('tuple(int0)',), ('tuple(tuple(),tuple())',), ('int0', 'int1'),
        ('int0', 'int1'), ('boolFalse',))


def changed(stand, at, value):
    return (*stand[:at], value, *stand[at + 1:])


class TestIsStand(Case):
    def setUp(self):
        self.made = maker(RICH, every=3)
        self.bare = maker(RICH, names=False)

    def yes(self, at, *values):
        for value in values:
            self.assertIs(is_stand(self.made, changed(FIRST, at, value)), True, value)

    def no(self, at, *values):
        for value in values:
            self.assertIs(is_stand(self.made, changed(FIRST, at, value)), False, value)

    def test_first(self):
        self.same(first_stand(self.made), FIRST)
        self.assertIs(is_stand(self.made, FIRST), True)
        self.assertIs(is_stand(maker=self.made, value=FIRST), True)

    def test_other_values(self):
        for value in (*ODD, list(FIRST), FIRST[:6], FIRST + (0,), (FIRST,)):
            self.assertIs(is_stand(self.made, value), False)
        for at in range(7):
            for value in ODD:
                fine = strict(value) in FINE[at]
                self.assertIs(is_stand(self.made, changed(FIRST, at, value)), fine, (at, value))
            self.no(at, list(FIRST[at]) if isinstance(FIRST[at], tuple) else [FIRST[at]])

    def test_places(self):
        self.yes(0, ((), ()), ((7,), (13,)), ((9,), (14,)), ((10,), (15,)), ((11,), ()), ((7, 17), ()),
                 ((7, 18), (15, 20)), ((7, 18, 20), (15, 22)), ((7, 18, 21), (15, 21)))
        self.no(0, ((6,), ()), ((8,), ()), ((5,), ()), ((12,), ()), ((13,), ()), ((17,), ()), ((0,), ()), ((23,), ()),
                ((-1,), ()), ((7, 20), ()), ((7, 16), ()), ((9, 17), ()), ((7, 17, 20), ()), ((7, 18, 17), ()),
                ((7, 18, 20, 20), ()), ((7, 18, 19), ()), ((), (10,)), ((), (7, 17)), ((), (15, 17)),
                ((True,), ()), (([7],), ()), ([7], ()), ((7,),), ((7,), (), ()), ((7,), None), (None, ()),
                ((7, False), ()), ((7, None), ()), (('7',), ()), ((7, [17]), ()), (7, ()))

    def test_a_part_that_calls_itself(self):
        made = maker('hand h\n  call p\npart p\n  call p')
        for place, fine in (((1,), True), ((1, 3), True), ((1, 3, 3), True), ((1, 3, 3, 3), False), ((3,), False),
                            ((1, 1), False)):
            self.assertIs(is_stand(made, ((place,), (), (), ((),), 0, 0, False)), fine)

    def test_cells(self):
        self.yes(1, (0, 0), (2, 1), (1, 0))
        self.no(1, (3, 0), (0, 2), (-1, 0), (True, 0), (0, False), (0,), (0, 0, 0), [0, 0], (None, 0), ('0', 0), ())

    def test_locks(self):
        self.yes(2, (-1,), (0,), (1,))
        self.no(2, (-2,), (2,), (True,), (False,), (None,), (), (0, 0), [0], ('one',))

    def test_boxes(self):
        one, two = ('one', 'u', (2,)), ('two', 'v', (1,))
        self.yes(3, ((one,), ()), ((one, one), (two, two)), ((('one', 'w', (1,)),), (('two', 'w', (0,)),)))
        self.no(3, ((one, one, one), ()), ((two,), ()), ((), (one,)), ((('one', 'v', (1,)),), ()),
                ((('one', 'u', (3,)),), ()), ((('one', 'u', ()),), ()), ((('one', 'u', (1, 1)),), ()),
                ((('one', 'u', (True,)),), ()), ((('one', 'u', [1]),), ()), ((['one', 'u', (1,)],), ()),
                ((('one', 'u'),), ()), ((('one', 'z', ()),), ()), (((None, 'u', (1,)),), ()), (([one],), ()), ([one], ()),
                ((one,),), ((one,), (), ()), ((one,), None), ((('one', 'u', (1,), 1),), ()), ((('one', None, (1,)),), ()),
                ((('one', 'u', None),), ()), ((('one', 'u', (None,)),), ()), ((([], 'u', (1,)),), ()),
                (((('one',), 'u', (1,)),), ()), ((('one', ['u'], (1,)),), ()), ((('one', 'u', ({},)),), ()))

    def test_boxes_below_the_level(self):
        made = maker(RICH, level=2)
        self.assertIs(is_stand(made, changed(FIRST, 3, ((('one', 'u', (1,)),), ()))), False)
        self.assertIs(is_stand(made, changed(FIRST, 3, ((), (('two', 'v', (1,)),)))), True)

    def test_boxes_without_names(self):
        box = ((None, 'u', (1,)),)
        self.assertIs(is_stand(self.bare, changed(FIRST, 3, (box, ()))), True)
        # Without names the entries of one hand are told like those of the other.
        self.assertIs(is_stand(self.bare, changed(FIRST, 3, ((), box))), True)
        self.assertIs(is_stand(self.bare, changed(FIRST, 3, ((('one', 'u', (1,)),), ()))), False)

    def test_box_of_none(self):
        made = maker('hand h\n  log 1 a')
        stand = (((1,),), (), (), ((),), 0, 0, False)
        self.assertIs(is_stand(made, stand), True)
        self.assertIs(is_stand(made, changed(stand, 3, ((('h', 'a', ()),),))), False)

    def test_count(self):
        self.yes(4, 0, 1, 2)
        self.no(4, 3, -1, True, False, None, '1')
        self.assertIs(is_stand(self.bare, FIRST), True)
        self.assertIs(is_stand(self.bare, changed(FIRST, 4, 1)), False)

    def test_falls(self):
        self.yes(5, 0, 1)
        self.no(5, 2, -1, True, False, None)
        made = maker(TINY)
        self.assertIs(is_stand(made, changed(first_stand(made), 5, 1)), False)

    def test_fallen(self):
        fallen = (((), ()), (2, 1), (-1,), ((), ()), 2, 1, True)
        self.assertIs(is_stand(self.made, fallen), True)
        for at, value in ((0, ((7,), ())), (0, ((), (13,))), (2, (0,)), (2, (1,)), (3, ((('one', 'u', (2,)),), ())),
                          (6, 1), (6, 0), (6, None), (1, (3, 1))):
            self.assertIs(is_stand(self.made, changed(fallen, at, value)), False)
        self.no(6, True, 0, 1, None, 'fallen')
        self.assertIs(is_stand(self.made, changed(fallen, 6, False)), True)

    def test_all_stands_that_runs_come_to(self):
        for text in (RICH, GATE, TINY):
            for more in ({}, {'every': 2}, {'names': False, 'level': 2}):
                made = maker(text, **more)
                queue = [first_stand(made)]
                for stand in queue:
                    self.assertIs(is_stand(made, stand), True)
                    self.assertEqual(steps(made, stand), tuple(sorted(set(steps(made, stand)))))
                    for step in steps(made, stand):
                        behind, _ = after(made, stand, step)
                        if behind not in queue and len(queue) < 300:
                            queue.append(behind)


class TestSteps(Case):
    def test_ascending(self):
        made = maker('cell x 1\nbox 1\nhand a\n  start b\n  log 1 u\n  ask x\nhand b\n  log 1 v\n  ask x')
        stand = gone(made, do(0), do(0), do(1))
        self.same(steps(made, stand), (do(0, 0), do(0, 1), do(1, 0), do(1, 1), write(0), write(1)))

    def test_no_step(self):
        gate = maker(GATE)
        first = first_stand(gate)
        near = (do(0), do(0, 3), do(0, -1), do(1, 0), do(1), do(0, True), do(0, False), do(False, 0), do(0, '0'),
                ['do', 0, 0], ('do', [0], 0), ('do', 0), ('do', 0, 0, 0), ('do',), 'do', write(0), write(1), AGAIN,
                ('again', 0), ('Do', 0, 0), (['do'], 0, 0), (None, 0, 0), (True, 0, 0), do(0, (0,)), do(0, [0]),
                do(0, {}), (do(0, 0),), ('do', None, 0))
        for value in (*ODD, *near):
            self.told(NoStep, value, after, gate, first, value)
        self.told(NoStep, do(0, 0), after, gate, gone(gate, do(0, 0)), do(0, 0))
        self.told(NoStep, do(0, False), after, maker=gate, stand=gone(gate, do(0, 0)), step=do(0, False))
        boxed = gone(gate, do(0, 0), do(0), do(0), do(0))
        for value in (('write', False), ('write', 1), ('write', -1), ('write', None), ['write', 0], ('write', '0'),
                      ('write', 0, None)):
            self.told(NoStep, value, after, gate, boxed, value)

    def test_no_beginning_anew(self):
        made = maker('again 1\nhand h\n  fail w')
        self.told(NoStep, AGAIN, after, made, first_stand(made), AGAIN)
        fallen = gone(made, do(0))
        for value in (('again', 0), ['again'], 'again', ('again', None), do(0)):
            self.told(NoStep, value, after, made, fallen, value)
        self.told(NoStep, AGAIN, after, made, gone(made, do(0), AGAIN, do(0)), AGAIN)

    def test_nothing_is_changed(self):
        made = maker(RICH)
        stand = gone(made, do(0), do(0))
        for step in steps(made, stand):
            self.unchanged(after, made, stand, step)
        self.unchanged(steps, made, stand)
        self.unchanged(is_stand, made, [list(stand), {'a': [stand]}])


class TestRuns(Case):
    def test_runs(self):
        gate = maker(GATE)
        self.same(led(gate, ()), first_stand(gate))
        run = (do(0, 0), do(0), do(1), do(0))
        self.same(led(maker=gate, run=run), gone(gate, *run))
        self.same(log_of(gate, ()), ())

    def test_bad(self):
        gate = maker(GATE)
        run = (do(0, 0), do(0), do(1), do(0))
        near = ([*run], run[1:], (*run, do(1)), (*run[:2], do(1, 0)), (do(False, 0),), (do(0, True),), (list(run[0]),),
                run[0], (run,), (*run, None), (*run, []), (*run, write(0)), (do(0, 0), do(0, 0)), (AGAIN,), {0: run[0]})
        for value in (*[value for value in ODD if value != ()], *near):
            self.told(BadRun, value, led, gate, value)
            self.told(BadRun, value, log_of, gate, value)
            self.told(BadRun, value, log_of, maker=gate, run=value)

    def test_long(self):
        made = maker('cell x 1\nhand h\n  while x = 0\n    log 1 a')
        run = (do(0),) * 5000
        self.same(len(log_of(made, run)), 2500)
        self.same(led(made, run), first_stand(made))


class TestState(Case):
    def test_each(self):
        made = maker('cell x 2\nagain 1\nhand h\n  ask x\n  if x = 0\n    join h\n  if x = 1\n    fail w')
        self.same(state(made, first_stand(made)), 'open')
        self.same(state(made, gone(made, do(0, 0), do(0))), 'stuck')
        self.same(state(made, gone(made, do(0, 2), do(0), do(0))), 'done')
        fallen = (do(0, 1), do(0), do(0), do(0))
        self.same(state(made, gone(made, *fallen)), 'open')
        self.same(state(made, gone(made, *fallen, AGAIN, *fallen)), 'fallen')
        self.same(state(maker=made, stand=first_stand(made)), 'open')

    def test_of_a_stand_that_no_run_comes_to(self):
        made = maker(RICH)
        self.same(state(made, (((), ()), (0, 0), (1,), ((), ()), 0, 0, False)), 'done')
        self.same(state(made, (((7, 17), ()), (0, 0), (1,), ((), ()), 0, 0, False)), 'stuck')
        self.same(state(made, (((), ()), (0, 0), (1,), ((('one', 'u', (2,)),), ()), 0, 0, False)), 'open')


if __name__ == '__main__':
    unittest.main()
