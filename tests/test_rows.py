"""What each row does, and when it can be done."""

import unittest

from loggedruns.entries import log_of
from loggedruns.stands import after, first_stand, led, state, steps
from tests.common import AGAIN, GATE, Case, do, gone, maker, write


def text(*lines):
    return '\n'.join(lines)


class TestExample(Case):
    def test_gate(self):
        gate = maker(GATE)
        first = first_stand(gate)
        run = (('do', 0, 0), ('do', 0, None))
        self.same([first, steps(gate, first), after(gate, first, ('do', 0, 2))[0], state(gate, led(gate, run))],
                  [(((3,), ()), (0,), (), ((), ()), 0, 0, False), (('do', 0, 0), ('do', 0, 1), ('do', 0, 2)),
                   (((4,), ()), (2,), (), ((), ()), 0, 0, False), 'open'])


class TestValues(Case):
    def cells(self, made, *run):
        return gone(made, *run)[1]

    def test_set(self):
        made = maker(text('cell x 3', 'cell y 2', 'hand h', '  set x 3', '  set y 2', '  set x y', '  set x 0'))
        self.same(self.cells(made), (0, 0))
        self.same(self.cells(made, do(0)), (3, 0))
        self.same(self.cells(made, *[do(0)] * 2), (3, 2))
        self.same(self.cells(made, *[do(0)] * 3), (2, 2))
        self.same(self.cells(made, *[do(0)] * 4), (0, 2))
        self.same(gone(made, *[do(0)] * 4)[0], ((),))

    def test_add(self):
        made = maker(text('cell x 3', 'hand h', '  add x 3', '  add x -2', '  add x 1', '  add x -1'))
        self.same([self.cells(made, *[do(0)] * k) for k in range(5)], [(0,), (3,), (1,), (2,), (1,)])

    def test_ask(self):
        for top in (1, 2, 3):
            made = maker(text(f'cell x {top}', 'hand h', '  set x 1', '  ask x'))
            stand = gone(made, do(0))
            self.same(steps(made, stand), tuple([do(0, value) for value in range(top + 1)]))
            for value in range(top + 1):
                self.same(after(made, stand, do(0, value)), ((((),), (value,), (), ((),), 0, 0, False), None))

    def test_conditions(self):
        for sign, holds in (('=', lambda a, b: a == b), ('!=', lambda a, b: a != b),
                            ('<', lambda a, b: a < b), ('>', lambda a, b: a > b)):
            for value in range(4):
                for other in range(4):
                    made = maker(text('cell x 3', 'hand h', '  ask x', f'  if x {sign} {other}', '    stop', '  stop'))
                    line = 4 if holds(value, other) else 5
                    self.same(gone(made, do(0, value), do(0))[0], ((line,),))
                    made = maker(text('cell x 3', 'cell y 3', 'hand h', '  ask x', '  ask y',
                                      f'  while x {sign} y', '    stop', '  stop'))
                    line = 6 if holds(value, other) else 7
                    self.same(gone(made, do(0, value), do(0, other), do(0))[0], ((line,),))


class TestWhereItGoes(Case):
    def places(self, made, run):
        found = [first_stand(made)[0][0]]
        stand = first_stand(made)
        for step in run:
            stand, _ = after(made, stand, step)
            found.append(stand[0][0])
        return found

    def test_if_and_else(self):
        made = maker(text('cell x 1', 'hand h', '  if x = 0', '    set x 1', '    set x 0', '  else', '    stop',
                          '  if x = 1', '    stop', '  else', '    set x 0', '  set x 0'))
        self.same(self.places(made, [do(0)] * 6), [(2,), (3,), (4,), (7,), (10,), (11,), ()])

    def test_if_without_else_at_the_end(self):
        made = maker(text('cell x 1', 'hand h', '  if x = 1', '    stop'))
        self.same(self.places(made, [do(0)]), [(2,), ()])

    def test_while(self):
        made = maker(text('cell x 2', 'hand h', '  set x 2', '  while x > 0', '    add x -1', '    if x = 1',
                          '      set x 1'))
        self.same(self.places(made, [do(0)] * 9), [(2,), (3,), (4,), (5,), (6,), (3,), (4,), (5,), (3,), ()])

    def test_try_is_never_next(self):
        made = maker(text('cell x 1', 'hand h', '  try', '    try', '      set x 1', '    catch', '      stop',
                          '  catch', '    stop', '  while x = 1', '    try', '      set x 0', '    catch', '      stop',
                          '  if x = 0', '    try', '      stop', '    catch', '      stop'))
        self.same(self.places(made, [do(0)] * 6), [(4,), (9,), (11,), (9,), (14,), (16,), ()])

    def test_behind_a_catch(self):
        made = maker(text('cell x 1', 'hand h', '  try', '    fail w', '    stop', '  catch', '    set x 1',
                          '  set x 0'))
        self.same(self.places(made, [do(0)] * 3), [(3,), (6,), (7,), ()])

    def test_try_at_the_end_of_an_else(self):
        made = maker(text('cell x 1', 'hand h', '  while x = 0', '    if x = 1', '      stop', '    else', '      try',
                          '        set x 1', '      catch', '        stop'))
        self.same(self.places(made, [do(0)] * 4), [(2,), (3,), (7,), (2,), ()])

    def test_stop(self):
        made = maker(text('hand h', '  call p', '  stop', 'part p', '  call q', '  stop', 'part q', '  stop'))
        self.same(self.places(made, [do(0)] * 3), [(1,), (1, 4), (1, 4, 7), ()])

    def test_calls(self):
        made = maker(text('cell x 1', 'hand h', '  call p', '  call q', 'part p', '  call q', '  set x 1', 'part q',
                          '  set x 0'))
        self.same(self.places(made, [do(0)] * 6),
                  [(2,), (2, 5), (2, 5, 8), (2, 6), (3,), (3, 8), ()])

    def test_a_call_at_the_end_of_calls(self):
        made = maker(text('cell x 1', 'hand h', '  while x = 0', '    call p', 'part p', '  call q', 'part q',
                          '  set x 1'))
        self.same(self.places(made, [do(0)] * 5), [(2,), (3,), (3, 5), (3, 5, 7), (2,), ()])

    def test_a_part_calls_itself(self):
        made = maker(text('hand h', '  call p', 'part p', '  try', '    call p', '  catch deep', '    stop'))
        self.same(self.places(made, [do(0)] * 4), [(1,), (1, 4), (1, 4, 4), (1, 4, 6), ()])


class TestHands(Case):
    two = text('cell x 1', 'hand a', '  start b', '  join b', '  start b', 'hand b', '  set x 1', '  set x 0')

    def test_start_and_join(self):
        made = maker(self.two)
        self.same(first_stand(made)[0], ((2,), ()))
        self.same(gone(made, do(0))[0], ((3,), (6,)))
        self.same(steps(made, gone(made, do(0))), (do(1),))
        done = gone(made, do(0), do(1), do(1))
        self.same(done[0], ((3,), ()))
        self.same(steps(made, done), (do(0),))
        self.same(gone(made, do(0), do(1), do(1), do(0), do(0))[0], ((), (6,)))

    def test_start_waits_for_the_end(self):
        made = maker(text('cell x 1', 'hand a', '  start b', '  start b', 'hand b', '  set x 1'))
        self.same(steps(made, gone(made, do(0))), (do(1),))
        self.same(gone(made, do(0), do(1), do(0))[0], ((), (5,)))

    def test_of_itself_never(self):
        for row in ('start a', 'join a'):
            made = maker(text('hand a', '  ' + row))
            self.same(steps(made, first_stand(made)), ())
            self.same(state(made, first_stand(made)), 'stuck')

    def test_join_of_a_hand_that_never_began(self):
        made = maker(text('hand a', '  join b', 'hand b', '  stop'))
        self.same(gone(made, do(0))[0], ((), ()))

    def test_the_second_hand_starts_the_first(self):
        made = maker(text('hand a', '  start b', 'hand b', '  start a', '  stop'))
        self.same(steps(made, gone(made, do(0))), (do(1),))
        self.same(gone(made, do(0), do(1))[0], ((1,), (4,)))

    def test_parts_start_hands(self):
        made = maker(text('hand a', '  call p', 'hand b', '  call p', 'part p', '  start b', '  start a'))
        self.same(gone(made, do(0), do(0))[0], ((1, 6), (3,)))
        self.same(steps(made, gone(made, do(0), do(0))), (do(1),))
        self.same(gone(made, do(0), do(0), do(1))[0], ((1, 6), (3, 5)))
        self.same(state(made, gone(made, do(0), do(0), do(1))), 'stuck')


class TestLocks(Case):
    def test_take_and_give(self):
        made = maker(text('lock k', 'lock l', 'hand a', '  take l', '  start b', '  give l', '  take k',
                          'hand b', '  take l', '  give l', '  take l'))
        self.same(first_stand(made)[2], (-1, -1))
        stand = gone(made, do(0), do(0))
        self.same(stand[2], (-1, 0))
        self.same(steps(made, stand), (do(0),))
        stand = gone(made, do(0), do(0), do(0))
        self.same(stand[2], (-1, -1))
        self.same(steps(made, stand), (do(0), do(1)))
        stand = gone(made, do(0), do(0), do(0), do(0), do(1))
        self.same(stand[2], (0, 1))
        # The first hand is at rest and keeps its lock.
        self.same(stand[0], ((), (9,)))
        stand = gone(made, do(0), do(0), do(0), do(0), do(1), do(1), do(1))
        self.same([stand[2], state(made, stand)], [(0, 1), 'done'])

    def test_stuck(self):
        made = maker(text('lock k', 'lock l', 'hand a', '  start b', '  take k', '  take l', 'hand b', '  take l',
                          '  take k'))
        stand = gone(made, do(0), do(0), do(1))
        self.same([steps(made, stand), state(made, stand)], [(), 'stuck'])


class TestBoxes(Case):
    def test_without_a_box_it_is_written_at_once(self):
        for head in (('hand h',), ('box 0', 'hand h')):
            made = maker(text(*head, '  log 1 a', '  flush', '  log 2 b'))
            stand, entry = after(made, first_stand(made), do(0))
            self.same(entry, ('h', 'a', ()))
            self.same(stand[3], ((),))
            self.same(log_of(made, (do(0),) * 3), (('h', 'a', ()), ('h', 'b', ())))

    def test_boxes(self):
        made = maker(text('cell x 1', 'box 2', 'hand h', '  log 1 a', '  log 2 b x', '  set x 1', '  log 3 c x',
                          '  flush', '  stop'))
        stand, entry = after(made, first_stand(made), do(0))
        self.same([stand[3], entry], [((('h', 'a', ()),),), None])
        self.same(steps(made, stand), (do(0), write(0)))
        stand = gone(made, do(0), do(0), do(0))
        self.same(stand[3], ((('h', 'a', ()), ('h', 'b', (0,))),))
        # The box is full: the log row waits.
        self.same(steps(made, stand), (write(0),))
        behind, entry = after(made, stand, write(0))
        self.same([behind[3], entry], [((('h', 'b', (0,)),),), ('h', 'a', ())])
        stand = gone(made, do(0), do(0), do(0), write(0), do(0))
        self.same(stand[3], ((('h', 'b', (0,)), ('h', 'c', (1,))),))
        # flush waits.
        self.same(steps(made, stand), (write(0),))
        run = (do(0), do(0), do(0), write(0), do(0), write(0), write(0))
        self.same(steps(made, led(made, run)), (do(0),))
        self.same(log_of(made, run), (('h', 'a', ()), ('h', 'b', (0,)), ('h', 'c', (1,))))

    def test_a_row_that_makes_no_entry_waits_for_no_box(self):
        made = maker(text('box 1', 'hand h', '  log 2 a', '  log 1 b', '  log 2 c'), level=2)
        stand = gone(made, do(0))
        self.same(steps(made, stand), (do(0), write(0)))
        stand = gone(made, do(0), do(0))
        self.same(stand[3], ((('h', 'a', ()),),))
        self.same(steps(made, stand), (write(0),))

    def test_each_hand_has_its_own(self):
        made = maker(text('box 1', 'hand a', '  start b', '  log 1 u', '  flush', 'hand b', '  log 1 v', '  flush'))
        stand = gone(made, do(0), do(0), do(1))
        self.same(stand[3], ((('a', 'u', ()),), (('b', 'v', ()),)))
        self.same(steps(made, stand), (write(0), write(1)))
        stand = gone(made, do(0), do(0), do(1), write(1))
        self.same(steps(made, stand), (do(1), write(0)))

    def test_a_hand_at_rest_is_still_written_and_starts_with_its_box(self):
        made = maker(text('box 1', 'hand a', '  start b', '  join b', '  start b', 'hand b', '  log 1 v'))
        stand = gone(made, do(0), do(1))
        self.same([stand[0], stand[3]], [((3,), ()), ((), (('b', 'v', ()),))])
        stand = gone(made, do(0), do(1), do(0), do(0))
        self.same([stand[0], stand[3]], [((), (6,)), ((), (('b', 'v', ()),))])
        self.same(steps(made, stand), (write(1),))

    def test_open_with_a_box_alone(self):
        made = maker(text('box 1', 'hand h', '  log 1 a'))
        stand = gone(made, do(0))
        self.same([stand[0], state(made, stand)], [((),), 'open'])
        self.same(state(made, gone(made, do(0), write(0))), 'done')

    def test_flush_in_a_part_waits_for_the_own_box(self):
        made = maker(text('box 1', 'hand a', '  log 1 u', '  start b', '  call p', 'hand b', '  call p',
                          'part p', '  flush', '  stop'))
        stand = gone(made, do(0), do(0), do(0), do(1))
        self.same([stand[0], steps(made, stand)], [((4, 8), (6, 8)), (do(1), write(0))])


class TestCount(Case):
    def test_dropped(self):
        rows = [f'  log 1 {word}' for word in 'abcdefghi']
        for every, left in ((0, 'abcdefghi'), (2, 'acegi'), (3, 'abdegh'), (4, 'abcefgi')):
            made = maker(text('hand h', *rows), every=every)
            self.same(log_of(made, (do(0),) * 9), tuple([('h', word, ()) for word in left]))
            for many in range(10):
                self.same(gone(made, *[do(0)] * many)[4], many % every if every else 0)

    def test_over_all_hands_boxes_and_falls(self):
        made = maker(text('box 1', 'again 1', 'hand a', '  log 1 u', '  start b', '  flush', '  log 1 w', '  fail f',
                          'hand b', '  log 1 v'), every=3)
        run = (do(0), write(0), do(0), do(1), write(1), do(0), do(0), do(0), AGAIN, do(0), write(0))
        # w is spilt and has no number: the u behind the fall is the third one, and dropped.
        self.same(log_of(made, run), (('a', 'u', ()), ('b', 'v', ())))
        self.same(led(made, run[:-1])[4], 2)
        self.same(after(made, led(made, run[:-1]), write(0))[1], None)
        self.same(led(made, run)[4], 0)

    def test_what_is_below_the_level_has_no_number(self):
        made = maker(text('hand h', '  log 2 a', '  log 1 b', '  log 3 c', '  log 1 d', '  log 2 e'), every=2, level=2)
        self.same(log_of(made, (do(0),) * 5), (('h', 'a', ()), ('h', 'e', ())))
        self.same(gone(made, *[do(0)] * 4)[4], 0)


if __name__ == '__main__':
    unittest.main()
