import random
import unittest

from loggedruns.books import Book
from loggedruns.errors import BadJournal, BadQuestion, LogError, NoLog, NoSeat, TooMany
from loggedruns.journals import course, read_journal
from loggedruns.makers import Recorder
from tests.bookcase import ASKED, GO, HOT, BookCase, content, shown
from tests.common import ODD, TINY, maker
from tests.test_books import FREE
from tests.test_trials import DEEDS, do

TINY_LINE = 'book 1 0 yes |cell x 1|hand h|  a: ask x|  log 1 go|  if x > 0|    b: log 1 hot|  c: stop'
LINES = ('revise 3 4 1 0 no |    a: ask x', 'log 0 ?', 'log ?', 'add 1 gap ?', 'note 1 0 0 1 no fell 1', 'fill 1 0 0 h u - / gap ? / gap 2',
         'beside 1 gap ? / - ? *', 'add 1 gap 3 // gap ?', 'mend 1 1 1 h ? -', 'finish 1 open', 'log ?', 'beside 2 gap ?', 'tie 1 2 gap ?',
         'note 1 0 1 1 yes did a 1', 'drop 0')
# Each form of a line, with lines that lack something, or have too much.
NO_LINES = (
    '', ' ', 'book', TINY_LINE, 'book 1 0 yes', 'revise', 'revise 0', 'revise 0 0', 'revise 0 0 ', 'revise 0 0 - ', 'revise 0 0 -|', 'revise 0 0 -|  stop',
    'revise 0 0 1 0', 'revise 0 0 1 0 maybe', 'revise 0 0 1 1 yes', 'revise 0 0 4 0 yes', 'revise 0 0 1 5 yes', 'revise 0 0 1 0 yes|', 'revise 0 0 - -',
    'revise 00 0 -', 'revise 0 1000 -', 'revise -1 0 -', 'revise a 0 -', 'revise 0 0 1 00 yes', 'revise 0 0 - |a\nb', 'log', 'log ', 'log -', 'log 0 0 0',
    'log ? ? ?', 'log 0  0', 'log 00', 'log None', 'log ?0', 'add', 'add 0', 'add 0 ', 'add 0 -', 'add 0 h go', 'add 0 h go - // ', 'add 0 h go - //',
    'add 0 // h go -', 'add 0 h go -//h go -', 'add 0 h go - / h go -', 'add 0 gap 1 // gap 1 // gap 1', 'add 0 gap 0', 'add 0 gap 1 // -', 'add 00 gap 1', 'add - gap 1',
    'beside', 'beside 0', 'beside 0 ', 'beside 0 - -', 'beside 0 gap', 'beside 0 gap 1 // gap 1', 'beside 0 gap 1 /', 'beside - -', 'fill 0 0', 'fill 0 0 0',
    'fill 0 0 gap 1', 'fill 0 0 0 gap', 'fill 0 0 -1 gap 1', 'fill 0 0 0 0 gap 1', 'mend 0 0 0', 'mend 0 0 0 gap 1', 'mend 0 0 0 gap ?', 'mend 0 0 0 -',
    'mend 0 0 h go -', 'mend 0 0 0 h go - / h go -', 'finish 0', 'finish 0 ', 'finish 0 done', 'finish 0 None', 'finish 0 over over', 'finish over', 'finish 0 Over',
    'tie 0 1', 'tie 0 1 ', 'tie 0 -', 'tie 0 1 gap 0', 'note 0 0 0 0 fell 1', 'note 0 0 0 0 yes', 'note 0 0 0 0 yes ', 'note 0 0 0 0 True fell 1', 'note 0 0 0 yes fell 1',
    'note 0 0 0 0 yes fell', 'note 0 0 0 0 yes not', 'note 0 0 0 0 0 yes fell 1', 'drop', 'drop ', 'drop -', 'drop 0 0', 'drop 00', 'drop a', 'undo 0', 'undo ', ' undo', 'Undo',
    'undo 1', 'redo ', 'redo redo', 'undoredo', 'hold', 'trial', 'ask 0 0 fell 1', 'sheet 0', 'suspects fell 1', 'finish 0 over\n', '\nundo', 'undo\n', 'add 0 gap 1 ', 'add  0 gap 1',
    'logs 0', 'adds 0 gap 1')


class TestExample(BookCase):
    def test_tiny(self):
        book = Book(maker(TINY))
        log = book.begin_log(seats=(0,))
        book.add(log, ('h', 'go', ()))
        book.finish(log, 'over')
        self.same([book.journal[1:], read_journal(book.journal).end_of(0), course(book.journal, 0, 0, ASKED)],
                  [('log 0', 'add 0 h go -', 'finish 0 over'), 'over', ((2, 'sometimes'), (4, 'never'))])
        self.same(book.journal[0], TINY_LINE)


class TestJournal(BookCase):
    def test_each_line(self):
        book = Book(FREE)
        for deed in DEEDS:
            do(book, deed)
        self.same(book.journal[1:], LINES)
        self.same(shown(read_journal(lines=book.journal)), shown(book))
        book.undo()
        book.redo()
        self.same(book.journal[-2:], ('undo', 'redo'))

    def test_forms(self):
        for recorder, text in ((dict(), '1 0 yes'), (dict(level=3, every=4, names=False), '3 4 no'), (dict(every=2), '1 2 yes')):
            made = maker(TINY, **recorder)
            book = Book(made)
            self.same(book.journal, (TINY_LINE.replace('1 0 yes', text),))
            self.assertEqual(read_journal(book.journal).makers, (made,))
        book = Book(maker(TINY))
        book.revise(7, 7, (), recorder=Recorder(level=2, every=3))
        book.revise(2, 3, ('  ask x', '  a: set x 1'))
        book.revise(0, 8, tuple(FREE.program.text.split('\n')), recorder=Recorder())
        for seats in ((None,), (3,), (0, 2), (None, 1), (None, None)):
            book.begin_log(seats)
        for item in (None, 1, ('h', None, None), (None, 'u', ()), ('h', 'v', (None, 1))):
            book.add(0, item)
        book.begin_log()
        book.add(5, None)
        book.beside(5, ())
        book.fill(5, 0, 0, ())
        book.finish(0, 'open')
        book.finish(0, None)
        book.begin_log()
        book.tie(0, 6, ())
        question = ('and', ('did', 'a', 2), ('or', ('not', ('at', 'h', None)), ('by', 'x', None), ('fell', 1)))
        book.note(0, 0, 0, 5, question, True)
        self.same(book.journal[1:], (
            'revise 7 7 2 3 yes', 'revise 2 3 - |  ask x|  a: set x 1', 'revise 0 8 1 0 yes |' + FREE.program.text.replace('\n', '|'), 'log ?', 'log 3', 'log 0 2', 'log ? 1',
            'log ? ?', 'add 0 gap ?', 'add 0 gap 1', 'add 0 h ? *', 'add 0 - u -', 'add 0 h v ?,1', 'log ?', 'add 5 gap ?', 'beside 5 -', 'fill 5 0 0 -', 'finish 0 open',
            'finish 0 any', 'log ?', 'tie 0 6 -', 'note 0 0 0 5 yes and 2 did a 2 or 3 not at h - by x - fell 1'))
        self.same(shown(read_journal(book.journal)), shown(book))

    def test_each_cut(self):
        """At each cut the book is as it was there, what can be undone and done again, too."""
        book = Book(FREE)
        states = [self.all_of(book)]
        for deed in [*DEEDS[:8], 'undo', 'undo', 'redo', *DEEDS[7:12], 'undo', 'redo', *DEEDS[12:]]:
            if isinstance(deed, str):
                getattr(book, deed)()
            else:
                do(book, deed)
            states.append(self.all_of(book))
        self.same(len(book.journal), len(states))
        for k, state in enumerate(states):
            self.same(self.all_of(read_journal(book.journal[:k + 1])), state)

    def all_of(self, book):
        """A book, and what it is behind undoing all and doing all again."""
        found = [shown(book)]
        with book.trial():
            for deed in (book.redo, book.undo):
                try:
                    while True:
                        deed()
                        found.append(shown(book))
                except LogError:
                    pass
        return found

    def test_trials(self):
        book = self.book(FREE)
        book.tried(lambda same: same.add(0, 1))
        book.tried(lambda same: [same.add(0, 2), same.undo(), same.add(0, 3)], hold=True)
        self.same(book.journal[1:], ('log ?', 'add 0 gap 2', 'undo', 'add 0 gap 3'))
        self.same(shown(read_journal(book.journal)), shown(book))

    def test_bad_journals(self):
        for value in (*ODD, [TINY_LINE], (TINY_LINE, 1), (TINY_LINE, None), (1, TINY_LINE), (TINY_LINE, ('undo',)), TINY_LINE):
            self.told(BadJournal, 0, read_journal, value)
            self.told(BadJournal, 0, course, value, 0, 0, ASKED)
        for line in ('', 'undo', 'log ?', TINY_LINE + '|', TINY_LINE + '\n', TINY_LINE + ' ', TINY_LINE.replace('book', 'Book'), TINY_LINE.replace('yes |', 'yes|'),
                     TINY_LINE.replace('yes |', 'yes  |'), TINY_LINE.replace('1 0 yes', '-'), TINY_LINE.replace('1 0 yes', '1 1 yes'), TINY_LINE.replace('1 0 yes', '1 0'),
                     TINY_LINE.replace('1 0 yes', '01 0 yes'), 'book 1 0 yes', 'book 1 0 yes ', 'book 1 0 yes |', TINY_LINE.replace('|hand', '\nhand'),
                     TINY_LINE.replace('x 1', 'x 4'), TINY_LINE.replace('b: ', 'a: '), TINY_LINE.replace('ask x', 'ask y'), ' ' + TINY_LINE, 'book ' + TINY_LINE):
            self.told(BadJournal, 0, read_journal, (line,))
            self.told(BadJournal, 0, read_journal, (line, 'log ?'))

    def test_lines_of_no_form(self):
        ahead = (TINY_LINE, 'log ?', 'add 0 gap ?', 'log ?', 'undo')
        self.same(read_journal(ahead).logs, (0,))
        for line in NO_LINES:
            for at in range(1, len(ahead) + 1):
                self.told(BadJournal, at, read_journal, (*ahead[:at], line, *ahead[at:]))

    def test_refused_deeds(self):
        ahead = (TINY_LINE, 'log ?', 'add 0 h go -')
        for line in ('revise 8 8 -', 'revise 3 2 -', 'revise 0 1 -', 'revise 0 0 - |x', 'log 1', 'log 0 1', 'add 1 gap 1', 'add 0 h go 1', 'add 0 h go -', 'add 0 gap 1 // gap 1',
                     'beside 1 -', 'beside 0 -', 'beside 0 gap 2', 'fill 0 0 0 gap 1', 'fill 0 1 0 -', 'fill 0 0 1 -', 'mend 0 0 0 h hot -', 'mend 0 0 1 h go -', 'mend 1 0 0 h go -',
                     'finish 1 any', 'tie 0 0 -', 'tie 0 1 -', 'note 0 0 0 2 yes fell 1', 'note 0 0 0 0 yes fell 1', 'note 0 0 0 0 no fell 4', 'note 0 1 0 0 no fell 1',
                     'note 0 0 0 0 no did z 1', 'drop 0', 'redo', 'note 0 0 1 0 no fell 1', 'note 1 0 0 0 no fell 1'):
            self.told(BadJournal, 3, read_journal, (*ahead, line))
            self.told(BadJournal, 3, read_journal, (*ahead, line, 'nonsense'))
            self.told(BadJournal, 3, course, (*ahead, line), 0, 0, ASKED)
        self.told(BadJournal, 1, read_journal, (TINY_LINE, 'undo'))
        self.told(BadJournal, 5, read_journal, (*ahead, 'undo', 'redo', 'redo'))
        # Also what is too much.
        wide = 'book 1 0 yes |cell x 3|cell y 3|hand h|  a: ask x|  ask y|  ask x|  ask x|  ask x'
        self.told(BadJournal, 2, read_journal, (wide, 'log 0', 'log 0 0'))

    def test_near(self):
        """Journals with a line left out, put in twice, exchanged or otherwise: read just if each deed is done."""
        rng = random.Random(121)
        book = Book(FREE)
        for deed in DEEDS:
            do(book, deed)
        found = {True: 0, False: 0}
        for _ in range(250):
            lines = list(book.journal)
            for _ in range(rng.randint(1, 2)):
                at, other = rng.randrange(len(lines)), rng.randrange(len(lines))
                kind = rng.randrange(4)
                if kind == 0:
                    del lines[at]
                elif kind == 1:
                    lines.insert(at, rng.choice(['undo', 'redo', lines[other]]))
                elif kind == 2:
                    lines[at], lines[other] = lines[other], lines[at]
                else:
                    place = rng.randint(0, len(lines[at]))
                    lines[at] = lines[at][:place] + rng.choice(['', ' ', '0', 'a', '/']) + lines[at][place + rng.randint(0, 1):]
            try:
                again = read_journal(tuple(lines))
            except BadJournal as error:
                at = error.value
                self.assertTrue(0 <= at < max(1, len(lines)))
                if at:
                    self.same(read_journal(tuple(lines[:at])).journal, tuple(lines[:at]))
                self.told(BadJournal, at, read_journal, tuple(lines[:at + 1]))
                found[False] += 1
            else:
                self.same(again.journal, tuple(lines))
                found[True] += 1
        self.assertGreater(min(found.values()), 20, found)


class TestCourse(BookCase):
    journal = (TINY_LINE, 'revise 3 4 - |  log 1 go|  set x 0', 'log ?', 'add 0 h go -', 'add 0 h hot -', 'undo', 'finish 0 over', 'log 0', 'undo', 'undo', 'undo', 'undo',
               'redo', 'revise 2 3 - |  z: ask x')

    def plain(self, lines, log, seat, question):
        found, last = [], 'gone'
        for k in range(1, len(lines) + 1):
            try:
                word = read_journal(lines[:k]).ask(log, seat, question)[0]
            except (NoLog, NoSeat):
                word = 'gone'
            except BadQuestion:
                word = 'unknown'
            if word != last:
                found.append((k, word))
            last = word
        return tuple(found)

    def test_cuts(self):
        for log in (0, 1, 2):
            for seat in (0, 1):
                for question in (ASKED, ('did', 'z', 1), ('did', 'a', 1), ('is', 'x', 0), ('ended', 'done'), ('ended', 'open')):
                    self.same(self.unchanged(course, self.journal, log, seat, question), self.plain(self.journal, log, seat, question))
        self.same(course(lines=self.journal, log=0, seat=0, question=ASKED),
                  ((3, 'sometimes'), (5, 'always'), (6, 'sometimes'), (12, 'gone'), (13, 'sometimes')))
        self.same(course(self.journal, 1, 0, ASKED), ((8, 'sometimes'), (9, 'gone')))
        self.same(course(self.journal, 0, 0, ('did', 'z', 1)), ((3, 'unknown'), (12, 'gone'), (13, 'unknown'), (14, 'sometimes')))
        self.same(course((TINY_LINE,), 0, 0, ASKED), ())

    def test_any_values(self):
        for value in ODD:
            self.same(course(self.journal, value, 0, ASKED), course(self.journal, 0, 0, ASKED) if value == 0 and value is not False else
                      course(self.journal, 1, 0, ASKED) if value == 1 and value is not True else ())
            self.same(course(self.journal, 0, value, ASKED), course(self.journal, 0, 0, ASKED) if value == 0 and value is not False else ())
            self.same(course(self.journal, 0, 0, value), ((3, 'unknown'), (12, 'gone'), (13, 'unknown')))

    def test_tied_logs(self):
        lines = (TINY_LINE, 'log 0', 'add 0 h go -', 'log 0', 'add 1 gap ?', 'add 1 h hot -', 'tie 0 1 -', 'undo', 'redo')
        self.same(course(lines, 0, 0, ASKED), ((2, 'sometimes'), (7, 'always'), (8, 'sometimes'), (9, 'always')))
        self.same(course(lines, 1, 0, ASKED), ((4, 'sometimes'), (6, 'always'), (7, 'gone'), (8, 'always'), (9, 'gone')))

    def test_too_many(self):
        wide = 'book 1 0 yes |cell x 3|cell y 3|hand h|  a: ask x|  ask y|  ask x|  ask x'
        lines = (wide, 'log ? ?', 'revise 0 0 -', 'revise 6 6 - |  ask x')
        self.same(course(lines[:3], 0, 0, ('was', 'x', 0)), ((2, 'always'),))
        self.told(TooMany, 4000, course, lines, 0, 0, ('was', 'x', 0))
        self.same(course(lines, 1, 0, ('was', 'x', 0)), ())
        self.same(course(lines, 0, 0, 0), ((2, 'unknown'),))

    def test_content(self):
        book = read_journal(self.journal)
        self.same((book.logs, len(book.makers), book.journal), ((0,), 3, self.journal))
        self.same(content(book)[3], ((0, ((),), None, (None,), ()),))
        book.add(0, GO)
        book.add(0, HOT)
        self.same(book.journal[-2:], ('add 0 h go -', 'add 0 h hot -'))


if __name__ == '__main__':
    unittest.main()
