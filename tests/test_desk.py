import unittest

from loggedruns.desk import Desk
from loggedruns.errors import (BadCommand, BadEnd, BadItem, BadItems, BadJournal, BadLines, BadProgram, BadQuestion, BadSeats, BadTie, Impossible,
                               LogError, NoFinding, NoGrounds, NoItem, NoLog, NoSeat, NothingToRedo, NothingToUndo, TooMany, Unknown)
from loggedruns.journals import read_journal
from tests.bookcase import ASKED, GO, BookCase, shown
from tests.common import ODD
from tests.test_journals import LINES, NO_LINES, TINY_LINE
from tests.test_lateness import EVER

FREE_LINE = 'book 1 0 yes |cell x 3|hand h|  while x = x|    a: ask x|    if x = 0|      log 1 u|    else|      log 1 v x x'


def desk(*lines):
    return Desk((TINY_LINE, *lines))


class DeskCase(BookCase):
    def says(self, table, *pairs):
        for line, answer in pairs:
            self.same(table.say(line), answer)

    def no(self, table, error, value, line):
        """A line that is refused changes nothing."""
        ahead, book = shown(table.book), table.book
        self.told(error, value, table.say, line)
        self.same(shown(table.book), ahead)
        self.assertIs(table.book, book)


class TestExample(DeskCase):
    def test_tiny(self):
        table = Desk((TINY_LINE,))
        self.same([table.say('log 0'), table.say('add 0 h go -'), table.say('ask 0 0 asked a 1'), table.say('until 0 asked a 1'), table.say('sheet 0')],
                  ['0', 'done', 'sometimes', 'held 1', 'h go - // any'])


class TestDesk(DeskCase):
    def test_new(self):
        table = Desk(lines=(TINY_LINE, 'log 0', 'add 0 h go -'))
        self.same((table.book.sheet_of(0), table.book.journal), (((GO,),), (TINY_LINE, 'log 0', 'add 0 h go -')))
        for value in ODD:
            self.told(BadJournal, 0, Desk, value)
        self.told(BadJournal, 1, Desk, (TINY_LINE, 'undo'))
        self.told(BadJournal, 2, Desk, (TINY_LINE, 'log 0', 'say'))

    def test_deeds(self):
        table = Desk((FREE_LINE,))
        answers = {0: '1', 1: '0', 2: '1', 4: '0', 10: '2', 13: '1'}
        for k, line in enumerate(LINES):
            self.same(table.say(line=line), answers.get(k, 'done'))
        self.same(table.book.journal, (FREE_LINE, *LINES))
        self.says(table, ('undo', 'done'), ('undo', 'done'), ('redo', 'done'), ('redo', 'done'))
        self.same(shown(table.book), shown(read_journal((FREE_LINE, *LINES, 'undo', 'undo', 'redo', 'redo'))))

    def test_questions(self):
        table = desk('log ?', 'add 0 h go -')
        self.says(table, ('ask 0 0 asked a 1', 'sometimes'), ('ask 0 0 did a 1', 'always'), ('ask 0 0 fell 1', 'never'), ('makers 0 0', '0'),
                  ('writers 0 0 0', '0'), ('sheet 0', 'h go - // any'), ('suspects asked a 1', '0:0:sometimes'),
                  ('reasons 0 0 did a 1', '0:0 / -'), ('reasons 0 0 not did a 2', '- / -'))
        self.says(table, ('revise 3 4 - |  log 2 go', '1'), ('makers 0 0', '0 1'), ('beside 0 gap 1', 'done'), ('finish 0 over', 'done'),
                  ('sheet 0', 'h go - // gap 1 // over'), ('ask 0 0 asked a 1', 'never'), ('reasons 0 0 asked a 1', '1:0 2:0 / -'),
                  ('log 0 1', '1'), ('add 1 - go -', 'done'), ('writers 1 0 0', '0 1'), ('makers 1 1', '1'), ('finish 1 open', 'done'), ('sheet 1', '- go - // open'),
                  ('suspects asked a 1', '0:0:never 1:0:sometimes 1:1:sometimes'), ('suspects did z 1', '0:0:unknown 1:0:unknown 1:1:unknown'))
        self.says(table, ('log 0', '2'), ('sheet 2', '- // any'), ('beside 2 -', 'done'), ('sheet 2', '- // - // any'), ('until 2 asked a 1', 'held 2'))
        self.same(table.book.journal[:3], (TINY_LINE, 'log ?', 'add 0 h go -'))

    def test_none(self):
        table = desk()
        self.says(table, ('suspects asked a 1', '-'), ('log ?', '0'), ('revise 0 7 - |cell y 1|hand k|  d: log 1 u', '1'), ('note 0 0 0 0 no did d 1', '0'),
                  ('ask 0 0 asked a 1', 'none'), ('suspects asked a 1', '0:0:none'), ('makers 0 0', '1'))
        # Nobody else can have written what only one can.
        self.says(table, ('drop 0', 'done'), ('add 0 k u -', 'done'), ('writers 0 0 0', '0'), ('makers 0 0', '1'))

    def test_findings(self):
        table = desk('log 0', 'add 0 h go -', 'add 0 h hot -')
        self.says(table, ('note 0 0 0 2 yes did b 1', '0'), ('note 0 0 0 0 yes asked a 1', '1'), ('reasons 0 0 asked a 1', '- / 1'),
                  ('reasons 0 0 was x 1', '- / 1'), ('drop 1', 'done'), ('reasons 0 0 asked a 1', '- / 0'),
                  ('drop 0', 'done'), ('reasons 0 0 asked a 1', '0:1 / -'))

    def test_several_findings(self):
        """Two findings of which both are needed."""
        table = desk('log 0', 'add 0 h go -', 'note 0 0 0 1 yes is x 1', 'note 0 0 0 0 yes is x 0')
        self.says(table, ('ask 0 0 and 2 was x 0 was x 1', 'always'), ('reasons 0 0 and 2 was x 0 was x 1', '- / 0'))
        line = 'book 1 0 yes |cell x 1|cell y 1|hand h|  a: ask x|  b: ask y|  log 1 u'
        table = Desk((line, 'log 0', 'add 0 h u -', 'note 0 0 0 1 yes is y 1', 'note 0 0 0 1 yes is x 1'))
        self.says(table, ('reasons 0 0 and 2 is x 1 is y 1', '- / 0 1'))

    def test_until(self):
        ever = 'book 1 0 yes |' + EVER.replace('\n', '|')
        self.says(Desk((ever, 'log 0')), ('until 0 asked a 1', 'ever'), ('until 0 did a 1', 'held 1'))
        self.says(desk('revise 4 6 -', 'log 1'), ('until 0 asked a 1', 'silent'), ('until 0 fell 1', 'held 0'))


class TestErrors(DeskCase):
    def test_no_commands(self):
        table = desk('log 0', 'add 0 h go -', 'undo')
        for value in (*ODD, *NO_LINES, ('undo',), ['undo'], b'undo'):
            if value not in ('ask 0 0 fell 1', 'sheet 0', 'suspects fell 1'):
                self.no(table, BadCommand, value, value)
        for line in ('ask', 'ask 0 0', 'ask 0 0 ', 'ask 0 fell 1', 'ask 0 0 fell', 'ask 0 0 0 fell 1', 'ask 0 0  fell 1', 'ask 00 0 fell 1', 'ask a 0 fell 1', 'ask 0 0 fell 1 ',
                     'ask 0 0 fell 1000', ' ask 0 0 fell 1', 'makers', 'makers 0', 'makers 0 0 0', 'makers 0 -', 'makers 0 0 ', 'writers 0 0', 'writers 0 0 0 0', 'writers 0 0 a',
                     'reasons 0 0', 'reasons 0 fell 1', 'reasons 0 0 not', 'until 0', 'until fell 1', 'until 0 0 fell 1', 'until 0 -', 'sheet', 'sheet 0 0', 'sheet ', 'sheet a',
                     'sheet 0\n', 'suspects', 'suspects 0', 'suspects ', 'suspects fell', 'suspects 0 fell 1', 'suspect fell 1', 'Ask 0 0 fell 1', 'say sheet 0', 'book',
                     'findings 0', 'seats 0', 'end 0', 'course 0 0 fell 1', TINY_LINE, 'add 0 h go -\n', 'sheet 0\nundo'):
            self.no(table, BadCommand, line, line)
        self.says(table, ('redo', 'done'), ('sheet 0', 'h go - // any'))

    def test_errors_of_the_methods(self):
        table = desk('log 0', 'add 0 h go -', 'log ?', 'log 0 0')
        for line, error, value in (
                ('undo', None, None), ('undo', None, None), ('redo', None, None), ('redo', None, None), ('redo', NothingToRedo, None), ('revise 9 9 -', BadLines, 9),
                ('revise 1 0 -', BadLines, 0), ('revise 0 0 - |x', BadProgram, 0), ('revise 0 7 - |', BadProgram, 0), ('log 1', BadSeats, (1,)), ('log ? 1', BadSeats, (None, 1)),
                ('add 7 gap 1', NoLog, 7), ('add 0 gap 1 // h go 0', BadItem, (('h', 'go', (0,)),)), ('add 0 h go -', Impossible, ()), ('beside 0 -', Impossible, ()),
                ('beside 1 ' + ' / '.join(['gap ?'] * 13), BadItems, (None,) * 13), ('fill 0 0 0 gap 1', NoItem, 0), ('fill 0 1 0 -', NoItem, 1), ('mend 0 0 0 h hot -', BadItem, ('h', 'hot', ())),
                ('mend 1 0 0 h hot -', NoItem, 0), ('finish 9 any', NoLog, 9), ('tie 0 0 -', BadTie, 0), ('tie 0 2 -', BadTie, 2), ('tie 0 9 -', NoLog, 9),
                ('note 0 1 0 0 no fell 1', NoSeat, 1), ('note 0 0 0 2 no fell 1', NoItem, 2), ('note 0 0 0 0 no fell 9', BadQuestion, ('fell', 9)),
                ('note 0 0 0 0 yes fell 1', Impossible, (0,)), ('drop 0', NoFinding, 0), ('ask 9 0 fell 1', NoLog, 9), ('ask 0 9 fell 1', NoSeat, 9),
                ('ask 0 0 did z 1', BadQuestion, ('did', 'z', 1)), ('makers 9 0', NoLog, 9), ('makers 0 9', NoSeat, 9), ('writers 9 0 0', NoLog, 9), ('writers 0 1 0', NoItem, 1),
                ('writers 0 0 1', NoItem, 1), ('reasons 0 0 asked a 1', NoGrounds, 'sometimes'), ('reasons 0 0 fell 0', BadQuestion, ('fell', 0)), ('reasons 0 2 fell 1', NoSeat, 2),
                ('until 1 fell 1', Unknown, 1), ('until 2 fell 1', Unknown, 2), ('until 0 is x 1', BadQuestion, ('is', 'x', 1)), ('until 9 fell 1', NoLog, 9), ('sheet 9', NoLog, 9)):
            if error is None:
                self.same(table.say(line), 'done')
            else:
                self.no(table, error, value, line)
        self.no(desk(), NothingToUndo, None, 'undo')
        self.says(table, ('suspects is y 1', '0:0:unknown 1:0:unknown 2:0:unknown 2:1:unknown'))

    def test_too_many(self):
        table = desk(*['log ?'] * 8)
        self.no(table, TooMany, 8, 'log ?')
        self.no(desk('revise 0 0 -', 'revise 0 0 -', 'revise 0 0 -'), TooMany, 4, 'revise 0 0 -')
        table = desk('log 0', *['note 0 0 0 0 no fell 1'] * 4)
        self.no(table, TooMany, 4, 'note 0 0 0 0 no fell 1')

    def test_all_errors_are_log_errors(self):
        for error in (BadCommand, BadEnd):
            self.assertEqual(error.__bases__, (LogError,))
        self.assertTrue(ASKED)


if __name__ == '__main__':
    unittest.main()
