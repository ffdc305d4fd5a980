import unittest

from loggedruns.entries import entries, log_of
from tests.common import AGAIN, GATE, TINY, Case, do, maker, write


class TestExample(Case):
    def test_gate(self):
        gate = maker(GATE)
        run = (('do', 0, 0), ('do', 0, None), ('do', 0, None), ('do', 0, None), ('write', 0))
        self.same([log_of(gate, run), entries(gate)],
                  [(('one', 'done', ()),), (('one', 'done', ()), ('one', 'went', (0,)), ('one', 'went', (1,)),
                                            ('one', 'went', (2,)))])


class TestEntries(Case):
    def test_levels(self):
        text = 'hand h\n  log 1 a\n  log 2 b\n  log 3 c'
        for level, words in ((1, 'abc'), (2, 'bc'), (3, 'c')):
            made = maker(text, level=level)
            self.same(entries(made), tuple([('h', word, ()) for word in words]))
            self.same(log_of(made, (do(0),) * 3), tuple([('h', word, ()) for word in words]))

    def test_no_entries(self):
        self.same(entries(maker('hand h\n  stop')), ())
        self.same(entries(maker(TINY, level=2)), ())

    def test_names(self):
        text = 'hand b\n  start a\n  log 1 u\nhand a\n  log 1 v\n  log 1 u'
        self.same(entries(maker(text)), (('a', 'u', ()), ('a', 'v', ()), ('b', 'u', ())))
        self.same(entries(maker(text, names=False)), ((None, 'u', ()), (None, 'v', ())))
        run = (do(0), do(1), do(0), do(1))
        self.same(log_of(maker(text), run), (('a', 'v', ()), ('b', 'u', ()), ('a', 'u', ())))
        self.same(log_of(maker(text, names=False), run), ((None, 'v', ()), (None, 'u', ()), (None, 'u', ())))

    def test_parts_are_of_all_hands(self):
        text = 'hand a\n  call p\n  start b\nhand b\n  call p\npart p\n  log 1 u\npart q\n  log 2 v'
        self.same(entries(maker(text)), (('a', 'u', ()), ('a', 'v', ()), ('b', 'u', ()), ('b', 'v', ())))
        self.same(log_of(maker(text), (do(0), do(0), do(0), do(1), do(1))), (('a', 'u', ()), ('b', 'u', ())))

    def test_rows_that_are_never_done_count(self):
        text = 'cell x 1\nhand h\n  stop\n  if x = 0\n    log 1 a x\n  else\n    try\n      log 1 b\n    catch\n      log 1 c'
        self.same([entry[1] for entry in entries(maker(text))], ['a', 'a', 'b', 'c'])

    def test_what_shown_values_tell(self):
        for top in (1, 2, 3):
            text = f'cell x {top}\nhand h\n  ask x\n  log 1 a x\n  log 1 b x.odd\n  log 1 c x.some\n  log 1 d x.odd x'
            made = maker(text)
            for value in range(top + 1):
                odd, some = value % 2, 0 if value == 0 else 1
                self.same(log_of(made, (do(0, value), *[do(0)] * 4)),
                          (('h', 'a', (value,)), ('h', 'b', (odd,)), ('h', 'c', (some,)), ('h', 'd', (odd, value))))
            values = range(top + 1)
            expected = ([('h', 'a', (value,)) for value in values] + [('h', 'b', (0,)), ('h', 'b', (1,)), ('h', 'c', (0,)),
                                                                    ('h', 'c', (1,))]
                        + sorted([('h', 'd', (value % 2, value)) for value in values]))
            self.same(entries(made), tuple(expected))

    def test_values_of_one_state(self):
        made = maker('cell x 1\nkeep y 2\nhand h\n  log 1 a x y.some')
        self.same(entries(made), tuple([('h', 'a', (x, y)) for x in (0, 1) for y in (0, 1)]))
        made = maker('cell x 2\nhand h\n  log 1 a x x')
        self.same(entries(made), tuple([('h', 'a', (x, x)) for x in (0, 1, 2)]))

    def test_one_word_with_unlike_values(self):
        made = maker('cell x 1\nhand h\n  log 1 a x\n  log 1 a\n  log 1 a x x.some')
        self.same(entries(made), (('h', 'a', ()), ('h', 'a', (0,)), ('h', 'a', (0, 0)), ('h', 'a', (1,)),
                                  ('h', 'a', (1, 1))))

    def test_values_are_those_of_the_row_not_of_the_writing(self):
        made = maker('cell x 1\nbox 1\nhand h\n  log 1 a x\n  set x 1\n  stop')
        self.same(log_of(made, (do(0), do(0), write(0))), (('h', 'a', (0,)),))


class TestBoxes(Case):
    def test_each_size(self):
        text = 'hand h\n  log 1 a\n  log 1 b\n  flush\n  stop'
        self.same(log_of(maker(text), (do(0), do(0))), (('h', 'a', ()), ('h', 'b', ())))
        one = maker('box 1\n' + text)
        self.same(log_of(one, (do(0),)), ())
        self.same(log_of(one, (do(0), write(0), do(0))), (('h', 'a', ()),))
        two = maker('box 2\n' + text)
        self.same(log_of(two, (do(0), do(0))), ())
        self.same(log_of(two, (do(0), do(0), write(0), write(0))), (('h', 'a', ()), ('h', 'b', ())))

    def test_weaving_of_two_boxes(self):
        made = maker('box 1\nhand a\n  start b\n  log 1 u\nhand b\n  log 1 v')
        both = (do(0), do(0), do(1))
        self.same(log_of(made, (*both, write(0), write(1))), (('a', 'u', ()), ('b', 'v', ())))
        self.same(log_of(made, (*both, write(1), write(0))), (('b', 'v', ()), ('a', 'u', ())))

    def test_spilt(self):
        made = maker('box 2\nagain 1\nhand h\n  log 1 a\n  log 1 b\n  fail w')
        self.same(log_of(made, (do(0), do(0), write(0), do(0), AGAIN, do(0), write(0))), (('h', 'a', ()), ('h', 'a', ())))


if __name__ == '__main__':
    unittest.main()
