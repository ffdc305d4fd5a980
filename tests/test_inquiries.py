"""Logs of a book with fewer gaps: just the same weavings suit."""

import random
import unittest

from loggedruns.entries import entries
from loggedruns.errors import Impossible
from loggedruns.inquiries import Inquiry, brief_record, comes_to
from loggedruns.records import Record
from loggedruns.walks import bare_walk
from tests import generate
from tests.bookcase import ASKED, GO, HOT, BookCase
from tests.common import maker

FELL = ('fell', 1)


class TestBrief(BookCase):
    def brief(self, sheet, *places):
        """The brief sheet, with the places (copy, index) of findings at these places."""
        findings = tuple([(number, 0, copy, index, FELL, False) for number, (copy, index) in enumerate(places)])
        record = brief_record(Record((0,), sheet, 'over', findings))
        self.same((record.seats, record.end, [(number, seat, question, truth) for number, seat, _, _, question, truth in record.findings]),
                  ((0,), 'over', [(number, 0, FELL, False) for number in range(len(places))]))
        return (record.sheet, *[finding[2:4] for finding in record.findings])

    def test_sheets(self):
        for sheet, expected in ((((),), ((),)), (((None,),), ((None,),)), (((None, None),), ((None,),)), (((GO, None),), ((GO, None),)),
                                (((None, GO),), ((None, GO),)), (((GO, None, None, 1, None, None, None),), ((GO, None, 1, None),)),
                                (((GO, HOT, 1, 2),), ((GO, HOT, 1, 2),)), (((None, None), (GO,)), ((GO,),)), (((GO,), (None,)), ((GO,),)),
                                (((None,), (None, None)), ((None,),)), (((), (None,)), ((),)), (((1, None), (None, 2)), ((1, None), (None, 2)))):
            self.same(self.brief(sheet), (expected,))

    def test_findings(self):
        for sheet, places, expected in (
                (((None, None, None),), ((0, 1),), (((None,),), (0, 0))), (((None, None, None),), ((0, 3),), (((None,),), (0, 1))),
                (((None, None, None),), ((0, 0), (0, 2)), (((None, None),), (0, 0), (0, 1))), (((GO, None, None, HOT),), ((0, 3), (0, 1)), (((GO, None, HOT),), (0, 2), (0, 1))),
                (((GO, None, None, HOT),), ((0, 0), (0, 4)), (((GO, None, HOT),), (0, 0), (0, 3))), (((None,), (GO,)), ((0, 1),), (((None,), (GO,)), (0, 1))),
                (((None,), (GO,)), ((1, 1),), (((GO,),), (0, 1))), (((None, None), (None, None)), ((1, 2), (1, 0)), (((None,),), (0, 1), (0, 0)))):
            self.same(self.brief(sheet, *places), expected)

    def test_random(self):
        """What suits, with and without a truth of a question, is the same with all gaps and with the few."""
        rng = random.Random(131)
        found = {True: 0, False: 0}
        for _ in range(400):
            made = rng.choice([generate.talker, generate.chatty])(rng)
            every = entries(made) or (('h', 'u', ()),)
            sheet = tuple([tuple([rng.choice([None, None, None, 1, 2, generate.item(rng, rng.choice(every))]) for _ in range(rng.randint(0, 4))])
                           for _ in range(rng.choice([1, 1, 2]))])
            places = [(rng.randrange(len(sheet)), rng.randint(0, 4)) for _ in range(rng.randint(0, 3))]
            findings = tuple([(number, 0, copy, min(index, len(sheet[copy])), generate.fact(rng, made.program), rng.random() < 0.5)
                              for number, (copy, index) in enumerate(places)])
            inquiry = Inquiry((bare_walk(made),), Record((0,), sheet, rng.choice([None, 'over', 'open']), findings), 0, generate.fact(rng, made.program))
            brief = inquiry.of(brief_record(inquiry.log_record))
            for truth in (None, True, False):
                told = [comes_to(field, truth) for _, field in inquiry.fields()]
                self.same([comes_to(field, truth) for _, field in brief.fields()], told)
                found[told[0]] += 1
        self.assertGreater(min(found.values()), 100, found)


class TestGaps(BookCase):
    def test_contradictions(self):
        """The gap behind an entry is needed to tell which findings contradict."""
        book = self.book(None, (0,), GO, None, end='over')
        book.note(0, 0, 0, 0, ASKED, True)
        self.refused(book, Impossible, (0, 1), book.note, 0, 0, 0, 0, ('asked', 'a', 0), True)
        book = self.book(None, (0,), None, GO, end='over')
        book.note(0, 0, 0, 2, ('did', 'c', 1), False)
        self.refused(book, Impossible, (1,), book.note, 0, 0, 0, 2, ('did', 'b', 1), True)

    def test_reasons(self):
        """The entry behind a gap is needed where the one ahead of it is, too."""
        made = maker('cell x 1\ncell y 1\nhand h\n  a: ask x\n  b: ask y\n  log 1 u x\n  log 1 v y')
        book = self.book(made, (0,), ('h', 'u', (1,)), None, ('h', 'v', (0,)), end='over')
        question = ('and', ('asked', 'a', 1), ('asked', 'b', 0))
        self.same(book.reasons(0, 0, question)[:3], (((0, 0), (0, 2)), (), 'always'))
        self.same(book.reasons(0, 0, ('or', ('asked', 'a', 0), ('asked', 'b', 1)))[:3], (((0, 0), (0, 2)), (), 'never'))


if __name__ == '__main__':
    unittest.main()
