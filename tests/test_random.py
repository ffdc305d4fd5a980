"""Random programs and sheets, compared with what the document's words plainly say."""

import random
import unittest

from loggedruns.covers import cover, shows_cover
from loggedruns.entries import entries, log_of
from loggedruns.errors import TooMany
from loggedruns.fitting import fillings, fitting, shortest, shows_none, shows_shortest, stands_at
from loggedruns.sheets import brief, fits, is_sheet
from loggedruns.stands import is_stand, led
from tests import brute, generate
from tests.common import Case

ENDS = (None, 'over', 'open')


class TestRandom(Case):
    def cases(self, seed, many):
        """So many times a maker with few runs, these, and a sheet."""
        rng = random.Random(seed)
        count = 0
        while count < many:
            made = generate.made(rng)
            runs = brute.all_runs(made, 250)
            if runs is None:
                continue
            count += 1
            log = log_of(made, rng.choice(runs)[0])
            if rng.random() < 0.2 and log:
                log = log[1:] + log[:1]
            sheet = generate.sheet(rng, log)
            self.assertTrue(is_sheet(sheet), sheet)
            yield rng, made, runs, sheet

    def test_runs_and_logs(self):
        for _, made, runs, _ in self.cases(1, 60):
            known = entries(made)
            for run, stands, got in runs:
                log = tuple([entry for entry in got if entry is not None])
                self.assertEqual(log_of(made, run), log)
                self.assertEqual(led(made, run), stands[-1])
                self.assertIs(is_stand(made, stands[-1]), True)
                self.assertTrue(all(entry in known for entry in log))

    def test_fits(self):
        for _, made, runs, sheet in self.cases(2, 120):
            for run, stands, got in runs:
                read = bool(brute.ways(sheet, got))
                for end in ENDS:
                    self.assertIs(fits(made, sheet, run, end=end), read and brute.ends(made, stands[-1], end))

    def test_fewer_gaps(self):
        """The sheet by which grounds and lateness are found out has just the same runs that fit."""
        less = 0
        for rng, made, runs, sheet in self.cases(9, 80):
            sheet = tuple([tuple([item for one in copy for item in [one, *[None] * rng.choice([0, 0, 1, 2])]][:12])
                           for copy in sheet])
            sheet = rng.choice([sheet, (*sheet, (None,) * rng.randint(0, 3))[:2], (((None,) * 4), *sheet)[:2]])
            short = brief(sheet)
            self.assertTrue(is_sheet(short), short)
            less += short != sheet
            for copy in short:
                self.assertFalse([k for k in range(1, len(copy)) if copy[k] is None and copy[k - 1] is None])
            for run, _, _ in runs:
                self.assertIs(fits(made, short, run), fits(made, sheet, run))
        self.assertGreater(less, 50)

    def test_fitting(self):
        ran = 0
        for _, made, runs, sheet in self.cases(3, 250):
            for end in ENDS:
                fitted = brute.fitting_ways(made, runs, sheet, end)
                best = brute.shortest_run(fitted)
                least = cover(made, sheet, end=end)
                told = fitting(made, sheet, end=end)
                self.assertIs(shows_none(made, sheet, least, end=end), best is None)
                if best is None:
                    self.assertEqual(told, ('none', least))
                    self.assertIsNone(shortest(made, sheet, end=end))
                else:
                    ran += 1
                    self.assertEqual(told, ('run', best))
                    run, heights = shortest(made, sheet, end=end)
                    self.assertEqual(run, best)
                    for length in (len(best) - 1, len(best), len(best) + 1):
                        self.assertIs(shows_shortest(made, sheet, length, heights, end=end), length <= len(best))
        self.assertGreater(ran, 250)

    def test_stands_and_fillings(self):
        gaps = 0
        for _, made, runs, sheet in self.cases(4, 250):
            for end in ENDS:
                fitted = brute.fitting_ways(made, runs, sheet, end)
                for copy in range(len(sheet)):
                    for index in range(len(sheet[copy]) + 1):
                        self.assertEqual(stands_at(made, sheet, copy, index, end=end),
                                         brute.stands_where(fitted, copy, index))
                        if index < len(sheet[copy]) and isinstance(sheet[copy][index], int):
                            gaps += 1
                            self.assertEqual(fillings(made, sheet, copy, index, end=end),
                                             brute.filled(fitted, copy, index))
        self.assertGreater(gaps, 250)

    def test_covers(self):
        for rng, made, _, sheet in self.cases(5, 150):
            least = cover(made, sheet)
            self.assertEqual(set(least), brute.closed_over(made, sheet, [brute.first_pair(made, sheet)]))
            self.assertEqual(least, tuple(sorted(set(least))))
            self.assertIs(shows_cover(made, sheet, least), True)
            gone = rng.randrange(len(least))
            self.assertIs(shows_cover(made, sheet, least[:gone] + least[gone + 1:]), False)
            self.assertIs(shows_cover(made, sheet, least[:gone] + least[gone:gone + 1] + least[gone:]), False)
            if len(least) > 1:
                self.assertIs(shows_cover(made, sheet, least[::-1]), False)

    def test_greater_covers(self):
        grown = 0
        for rng, made, runs, sheet in self.cases(6, 150):
            least = cover(made, sheet)
            spots = [tuple([(rng.randint(0, len(copy)), 0) for copy in sheet]) for _ in range(3)]
            more = [(rng.choice(runs)[1][-1], spot) for spot in spots]
            closed = tuple(sorted(brute.closed_over(made, sheet, [*least, *more])))
            grown += len(closed) > len(least)
            self.assertIs(shows_cover(made, sheet, closed), True)
            for pair in more:
                if len(brute.targets(made, sheet, pair)) == 1:
                    loose = tuple(sorted({*least, pair}))
                    whole = all(target in loose for _, target in brute.targets(made, sheet, pair))
                    self.assertIs(shows_cover(made, sheet, loose), whole)
            for end in ENDS:
                self.assertIs(shows_none(made, sheet, closed, end=end), not brute.closers(made, sheet, end, closed))
        self.assertGreater(grown, 50)

    def test_heights_that_are_changed(self):
        for rng, made, _, sheet in self.cases(7, 150):
            told = shortest(made, sheet)
            if told is None:
                continue
            run, heights = told
            for _ in range(8):
                k = rng.randrange(len(heights))
                stand, spot, height = heights[k]
                changed = (*heights[:k], (stand, spot, height + rng.choice([-1, 1])), *heights[k + 1:])
                self.assertIs(shows_shortest(made, sheet, len(run), changed),
                              self.are_heights(made, sheet, len(run), changed))
                self.assertIs(shows_shortest(made, sheet, len(run), heights[:k] + heights[k + 1:]), False)

    def are_heights(self, made, sheet, length, value):
        heights = {(stand, spot): height for stand, spot, height in value}
        if heights[brute.first_pair(made, sheet)] > 0:
            return False
        for pair, height in heights.items():
            if any(heights[target] > height + rise for rise, target in brute.targets(made, sheet, pair)):
                return False
        return all(heights[pair] >= length for pair in brute.closers(made, sheet, None, heights))

    def test_never_more_than_the_limit(self):
        rng = random.Random(8)
        for _ in range(60):
            made = generate.made(rng)
            sheet = ((None,), (None,))
            try:
                self.assertLessEqual(len(cover(made, sheet)), 2000)
            except TooMany as error:
                self.assertEqual(error.value, 2000)


if __name__ == '__main__':
    unittest.main()
