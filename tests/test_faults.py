"""Faults, catches, falls and beginnings anew."""

import unittest

from loggedruns.entries import log_of
from loggedruns.stands import after, first_stand, led, state, steps
from tests.common import AGAIN, Case, do, gone, maker, write


def text(*lines):
    return '\n'.join(lines)


# For each fault: the word, the heads, what comes ahead, and the row.
FAULTS = (
    ('range', ('cell x 1',), (), 'set x 2'),
    ('range', ('cell x 1', 'cell y 3'), ('set y 3',), 'set x y'),
    ('range', ('cell x 1',), ('set x 1',), 'add x 1'),
    ('range', ('cell x 1',), (), 'add x -1'),
    ('twice', ('lock l',), ('take l',), 'take l'),
    ('lack', ('lock l',), (), 'give l'),
    ('own', (), (), 'fail own'),
    ('deep', (), (), 'fail deep'),
)


def run_of(many):
    return (do(0),) * many


class TestEachFault(Case):
    def behind(self, heads, ahead, *rows):
        """The stand behind all that comes ahead and the row with the fault, and the line of the fault."""
        made = maker(text(*heads, 'hand h', *['  ' + row for row in ahead], *['  ' + row for row in rows]))
        stand = gone(made, *[do(0)] * len(ahead))
        line = stand[0][0][-1]
        behind, entry = after(made, stand, do(0))
        self.assertIsNone(entry)
        self.same([behind[1], behind[3:6]], [stand[1], stand[3:6]])
        return made, stand, behind, line

    def test_taken_by_its_word(self):
        for word, heads, ahead, row in FAULTS:
            _, stand, behind, line = self.behind(heads, ahead, 'try', '  ' + row, f'catch {word}', '  stop')
            self.same(behind, (((line + 2,),),) + stand[1:])

    def test_taken_by_any(self):
        for word, heads, ahead, row in FAULTS:
            _, stand, behind, line = self.behind(heads, ahead, 'try', '  ' + row, 'catch', '  stop')
            self.same(behind, (((line + 2,),),) + stand[1:])

    def test_taken_by_the_next_try_outwards(self):
        for word, heads, ahead, row in FAULTS:
            _, stand, behind, line = self.behind(heads, ahead, 'try', '  try', '    ' + row, '  catch other',
                                                 '    stop', f'catch {word}', '  stop')
            self.same(behind, (((line + 4,),),) + stand[1:])

    def test_taken_by_none(self):
        for word, heads, ahead, row in FAULTS:
            for rows in ((row,), ('try', '  ' + row, 'catch other', '  stop')):
                made, stand, behind, _ = self.behind(heads, ahead, *rows)
                locks = (-1,) * len(stand[2])
                self.same(behind, (((),), stand[1], locks, ((),), 0, 0, True))
                self.same([steps(made, behind), state(made, behind)], [(), 'fallen'])

    def test_out_of_parts(self):
        for word, heads, ahead, row in FAULTS:
            for catch in (f'catch {word}', 'catch'):
                made = maker(text(*heads, 'hand h', *['  ' + one for one in ahead], '  try', '    call p', '  ' + catch,
                                  '    stop', '  stop', 'part p', '  try', '    call q', '  catch other', '    stop',
                                  'part q', '  ' + row))
                at = len(heads) + 1 + len(ahead)
                stand = gone(made, *run_of(len(ahead) + 2))
                self.same(stand[0], ((at + 1, at + 7, at + 11),))
                behind, _ = after(made, stand, do(0))
                self.same(behind, (((at + 3,),),) + stand[1:])

    def test_caught_in_the_part(self):
        for word, heads, ahead, row in FAULTS:
            made = maker(text(*heads, 'hand h', *['  ' + one for one in ahead], '  try', '    call p', '  catch',
                              '    stop', 'part p', '  try', '    ' + row, f'  catch {word}', '    stop'))
            at = len(heads) + 1 + len(ahead)
            behind = gone(made, *run_of(len(ahead) + 2))
            self.same(behind[0], ((at + 1, at + 8),))

    def test_out_of_parts_by_none(self):
        for word, heads, ahead, row in FAULTS:
            made = maker(text(*heads, 'hand h', *['  ' + one for one in ahead], '  try', '    call p', '  catch other',
                              '    stop', 'part p', '  ' + row))
            behind = gone(made, *run_of(len(ahead) + 2))
            self.same([behind[0], behind[6]], [((),), True])


class TestWhichTry(Case):
    def test_not_the_catch_of_its_own_try(self):
        made = maker(text('hand h', '  try', '    try', '      fail a', '    catch', '      fail b', '  catch',
                          '    stop'))
        self.same([gone(made, do(0))[0], gone(made, do(0), do(0))[0]], [((5,),), ((7,),)])
        made = maker(text('hand h', '  try', '    fail a', '  catch', '    fail a'))
        self.same(gone(made, do(0), do(0))[6], True)

    def test_the_innermost_first(self):
        made = maker(text('hand h', '  try', '    try', '      fail a', '    catch', '      stop', '  catch a',
                          '    stop'))
        self.same(gone(made, do(0))[0], ((5,),))

    def test_within_if_and_while(self):
        made = maker(text('cell x 1', 'hand h', '  try', '    while x = 0', '      if x = 0', '        fail a',
                          '  catch b', '    stop', '  stop'))
        self.same(gone(made, do(0), do(0), do(0))[6], True)
        made = maker(text('cell x 1', 'hand h', '  try', '    while x = 0', '      if x = 0', '        fail a',
                          '  catch a', '    set x 1', '  stop'))
        self.same(gone(made, do(0), do(0), do(0))[0], ((7,),))
        self.same(gone(made, do(0), do(0), do(0), do(0))[0], ((8,),))

    def test_catch_begins_with_a_try(self):
        made = maker(text('hand h', '  try', '    fail a', '  catch', '    try', '      fail b', '    catch',
                          '      stop'))
        self.same([gone(made, do(0))[0], gone(made, do(0), do(0))[0]], [((5,),), ((7,),)])

    def test_a_handler_of_the_callers_call_row(self):
        made = maker(text('hand h', '  try', '    call p', '    stop', '  catch w', '    call p', '  stop',
                          'part p', '  fail w'))
        self.same(gone(made, do(0), do(0))[0], ((5,),))
        self.same(gone(made, do(0), do(0), do(0))[0], ((5, 8),))
        self.same(gone(made, do(0), do(0), do(0), do(0))[6], True)

    def test_deep(self):
        made = maker(text('hand h', '  try', '    call p', '  catch deep', '    stop', 'part p', '  call p'))
        self.same([gone(made, *run_of(k))[0] for k in range(5)],
                  [((2,),), ((2, 6),), ((2, 6, 6),), ((4,),), ((),)])
        made = maker(text('hand h', '  call p', 'part p', '  try', '    call p', '  catch', '    stop'))
        self.same([gone(made, *run_of(k))[0] for k in range(4)],
                  [((1,),), ((1, 4),), ((1, 4, 4),), ((1, 4, 6),)])
        made = maker(text('hand h', '  call p', 'part p', '  try', '    call q', '  catch deep', '    stop', 'part q',
                          '  call p'))
        self.same([gone(made, *run_of(k))[0] for k in range(4)],
                  [((1,),), ((1, 4),), ((1, 4, 8),), ((1, 6),)])

    def test_two_calls_are_not_deep(self):
        made = maker(text('hand h', '  call p', 'part p', '  call q', 'part q', '  stop'))
        self.same(gone(made, do(0), do(0))[0], ((1, 3, 5),))

    def test_the_other_hands_lock(self):
        made = maker(text('lock l', 'hand a', '  take l', '  start b', '  stop', 'hand b', '  try', '    give l',
                          '  catch lack', '    stop'))
        stand = gone(made, do(0), do(0), do(1))
        self.same([stand[0], stand[2]], [((4,), (9,)), (0,)])

    def test_only_the_hand_with_the_fault_goes(self):
        made = maker(text('hand a', '  start b', '  stop', 'hand b', '  try', '    fail w', '  catch', '    stop'))
        self.same(gone(made, do(0), do(1))[0], ((2,), (7,)))


class TestFalls(Case):
    falls = text('cell x 3', 'keep y 3', 'lock l', 'box 2', 'again 2', 'hand a', '  log 1 v y', '  set x 2',
                 '  add y 1', '  take l', '  start b', '  log 1 u x', '  fail w', 'hand b', '  stop', '  stop')

    def run_to(self, many):
        ahead = run_of(7)
        return ((*ahead, AGAIN) * many + ahead)

    def test_what_falls(self):
        made = maker(self.falls, every=4)
        ahead = gone(made, do(0), write(0), *run_of(5))
        self.same(ahead, (((12,), (14,)), (2, 1), (0,), ((('a', 'u', (2,)),), ()), 1, 0, False))
        behind, entry = after(made, ahead, do(0))
        self.same([behind, entry], [(((), ()), (2, 1), (-1,), ((), ()), 1, 0, True), None])
        self.same([steps(made, behind), state(made, behind)], [(AGAIN,), 'open'])

    def test_again(self):
        made = maker(self.falls, every=4)
        fallen = gone(made, do(0), write(0), *run_of(6))
        anew, entry = after(made, fallen, AGAIN)
        self.same([anew, entry], [(((6,), ()), (0, 1), (-1,), ((), ()), 1, 1, False), None])

    def test_as_often_as_told(self):
        for many in (0, 1, 2):
            made = maker(self.falls.replace('again 2', f'again {many}'))
            for falls in range(many + 1):
                stand = led(made, self.run_to(falls))
                self.same([stand[1], stand[5], stand[6]], [(2, falls + 1), falls, True])
                self.same(state(made, stand), 'open' if falls < many else 'fallen')
                self.same(steps(made, stand), (AGAIN,) if falls < many else ())

    def test_without_again(self):
        made = maker('hand h\n  fail w')
        self.same(steps(made, gone(made, do(0))), ())

    def test_spilt_entries_are_in_no_log(self):
        made = maker(self.falls)
        self.same(log_of(made, self.run_to(2)), ())
        self.same(log_of(made, (do(0), write(0), *run_of(6), AGAIN, do(0), write(0))),
                  (('a', 'v', (0,)), ('a', 'v', (1,))))

    def test_the_other_hands_box_is_spilt_too(self):
        made = maker(text('box 1', 'hand a', '  start b', '  flush', '  fail w', 'hand b', '  log 1 v', '  stop'))
        self.same(gone(made, do(0), do(1), do(0), do(0)), (((), ()), (), (), ((), ()), 0, 0, True))

    def test_hands_at_rest_at_the_fall_of_the_second(self):
        made = maker(text('again 1', 'hand a', '  start b', 'hand b', '  fail w'))
        run = (do(0), do(1))
        self.same(led(made, run), (((), ()), (), (), ((), ()), 0, 0, True))
        self.same(led(made, (*run, AGAIN))[0], ((2,), ()))

    def test_without_keep(self):
        made = maker(text('cell x 1', 'keep y 1', 'cell z 1', 'again 1', 'hand h', '  set x 1', '  set y 1', '  set z 1',
                          '  fail w'))
        self.same(gone(made, *run_of(4))[1], (1, 1, 1))
        self.same(gone(made, *run_of(4), AGAIN)[1], (0, 1, 0))
        self.same(first_stand(made)[1], (0, 0, 0))


if __name__ == '__main__':
    unittest.main()
