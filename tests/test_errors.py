import unittest

from loggedruns import errors
from tests.common import ODD, Case

NAMES = ('BadProgram Doubled Unnamed BadRecorder BadMaker NoLabel NoStep BadRun BadSheet BadEnd NoItem BadQuestion '
         'NoGrounds BadTests NoRuns BadChanges BadOffers BadCrowd NoNumber BadLines BadSeats NoLog BadItem BadItems '
         'BadTie NoSeat BadTruth NoFinding Impossible Unknown NothingToUndo NothingToRedo BadShown BadJournal '
         'BadCommand TooMany').split()


class TestErrors(Case):
    def test_base(self):
        self.assertEqual(errors.LogError.__bases__, (ValueError,))

    def test_all_are_directly_below_the_base(self):
        for name in NAMES:
            self.assertEqual(getattr(errors, name).__bases__, (errors.LogError,), name)

    def test_there_are_no_others(self):
        found = [name for name in vars(errors) if isinstance(getattr(errors, name), type)]
        self.assertEqual(sorted(found), sorted(NAMES + ['LogError']))

    def test_they_keep_any_value(self):
        for name in NAMES + ['LogError']:
            made = getattr(errors, name)
            for value in ODD:
                self.assertIs(made(value).value, value)
                self.assertIs(made(value=value).value, value)

    def test_they_can_be_raised_and_caught_by_the_base(self):
        for name in NAMES:
            with self.assertRaises(errors.LogError) as held:
                raise getattr(errors, name)([name])
            self.assertEqual(held.exception.value, [name])

    def test_one_value_is_needed(self):
        for name in NAMES:
            with self.assertRaises(TypeError):
                getattr(errors, name)()


if __name__ == '__main__':
    unittest.main()
