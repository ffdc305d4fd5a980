import unittest

from loggedruns.errors import BadMaker, BadRecorder
from loggedruns.makers import Maker, Recorder
from loggedruns.programs import Program
from tests.common import GATE, ODD, TINY, Case


def wholes(low, high):
    return [value for value in ODD + (0, 1, 2, 3, 4, 5, -1)
            if isinstance(value, int) and not isinstance(value, bool) and low <= value <= high]


class TestRecorder(Case):
    def test_as_made(self):
        recorder = Recorder()
        self.same([recorder.level, recorder.every, recorder.names], [1, 0, True])
        for level in (1, 2, 3):
            for every in (0, 2, 3, 4):
                for names in (True, False):
                    recorder = Recorder(level=level, every=every, names=names)
                    self.same([recorder.level, recorder.every, recorder.names], [level, every, names])

    def test_bad_level(self):
        for value in ODD + (0, 4):
            if isinstance(value, bool) or value not in (1, 2, 3):
                self.told(BadRecorder, value, Recorder, level=value)

    def test_bad_every(self):
        for value in ODD + (1, 5, -1):
            if isinstance(value, bool) or value not in (0, 2, 3, 4):
                self.told(BadRecorder, value, Recorder, every=value)

    def test_bad_names(self):
        for value in ODD + (0, 1, None):
            if not isinstance(value, bool):
                self.told(BadRecorder, value, Recorder, names=value)

    def test_first_of_several(self):
        self.told(BadRecorder, 0, Recorder, names=2, every=1, level=0)
        self.told(BadRecorder, 1, Recorder, names=2, every=1)
        self.told(BadRecorder, True, Recorder, level=True, every=False)
        self.told(BadRecorder, False, Recorder, every=False, names=0)

    def test_by_name_only(self):
        with self.assertRaises(TypeError):
            Recorder(1)

    def test_equal(self):
        made = [dict(level=level, every=every, names=names)
                for level in (1, 3) for every in (0, 2) for names in (True, False)]
        for one in made:
            for other in made:
                self.assertEqual(Recorder(**one) == Recorder(**other), one == other)
                self.assertEqual(Recorder(**one) != Recorder(**other), one != other)
        for value in [*ODD, Program(GATE), Maker(Program(GATE), Recorder())]:
            self.assertFalse(Recorder() == value)


class TestMaker(Case):
    def test_as_made(self):
        program, recorder = Program(GATE), Recorder(level=2)
        made = Maker(program, recorder)
        self.assertIs(made.program, program)
        self.assertIs(made.recorder, recorder)
        self.assertTrue(Maker(recorder=recorder, program=program) == made)

    def test_bad(self):
        program, recorder = Program(GATE), Recorder()
        others = (*ODD, GATE)
        for value in others:
            self.told(BadMaker, value, Maker, value, recorder)
            self.told(BadMaker, value, Maker, program, value)
            self.told(BadMaker, value, Maker, value, GATE)

    def test_bad_with_programs_and_recorders_in_it(self):
        program, recorder = Program(GATE), Recorder()
        for value in (recorder, [program], (program,), {'a': program}, Maker(program, recorder), (program, recorder)):
            with self.assertRaises(BadMaker) as held:
                Maker(value, recorder)
            self.assertIs(held.exception.value, value)
        for value in (program, [recorder], (recorder,), {1: recorder}, Maker(program, recorder)):
            with self.assertRaises(BadMaker) as held:
                Maker(program, value)
            self.assertIs(held.exception.value, value)
        with self.assertRaises(BadMaker) as held:
            Maker(recorder, program)
        self.assertIs(held.exception.value, recorder)

    def test_equal(self):
        one = Maker(Program(GATE), Recorder())
        self.assertTrue(one == Maker(Program(GATE), Recorder(level=1)))
        self.assertFalse(one != Maker(Program(GATE), Recorder()))
        self.assertFalse(one == Maker(Program(TINY), Recorder()))
        self.assertFalse(one == Maker(Program(GATE), Recorder(level=2)))
        self.assertTrue(one != Maker(Program(GATE), Recorder(names=False)))
        for value in [*ODD, Program(GATE), Recorder()]:
            self.assertFalse(one == value)
            self.assertFalse(Program(GATE) == one)


if __name__ == '__main__':
    unittest.main()
