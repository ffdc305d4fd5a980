import unittest

from loggedruns.books import Book
from loggedruns.errors import (BadEnd, BadItem, BadItems, BadLines, BadMaker, BadProgram, BadQuestion, BadRecorder, BadSeats,
                               BadTie, BadTruth, Doubled, Impossible, NoFinding, NoItem, NoLog, NoSeat, TooMany, Unnamed)
from loggedruns.makers import Maker, Recorder
from loggedruns.programs import Program
from tests.bookcase import ASKED, GO, HOT, PLAIN, BookCase, shown
from tests.common import ODD, TINY, maker, standing
from tests.test_covers import BAD_ENDS

U = ('h', 'u', ())
V = ('h', 'v', (1, 1))
FREE = maker('cell x 3\nhand h\n  while x = x\n    a: ask x\n    if x = 0\n      log 1 u\n    else\n      log 1 v x x')
BAD_ITEMS = tuple(value for value in ODD if value is not None and repr(value) not in ('1', '5')) + (
    10, ('h', 'go'), ('h', 'go', []), ['h', 'go', ()], ('H', 'go', ()), ('h', 'go', (4,)), ('h', 'go', (True,)), ('h', 1, ()),
    ('h', 'go', (0, 0, 0)), ('h', 'go', None, None))
# Odd values that are no items in any number, no copies.
BAD_COPIES = tuple(value for value in ODD if value not in ((), (None, None))) + ((0,), ([],), [U], (U, 10), U)


class TestExample(BookCase):
    def test_over(self):
        tiny = maker(TINY)
        book, question = Book(tiny), ASKED
        log = book.begin_log(seats=(0,))
        item = book.add(log, ('h', 'go', ()))
        words = [book.ask(log, 0, question)[0]]
        end = book.finish(log, 'over')
        self.same([words, book.ask(log, 0, question)[0], book.makers_of(log, 0), book.sheet_of(log)],
                  [['sometimes'], 'never', (0,), ((('h', 'go', ()),),)])
        self.same((log, item, end), (0, None, None))

    def test_impossible(self):
        book = Book(maker(TINY))
        log = book.begin_log()
        number = book.note(log, 0, 0, 0, ASKED, True)
        item = book.add(log, GO)
        self.same((number, item), (0, None))
        self.refused(book, Impossible, (0,), book.finish, log, 'over')


class TestBook(BookCase):
    def test_new(self):
        made = maker(TINY)
        book = Book(maker=made)
        self.assertEqual(book.makers, (made,))
        self.same((book.logs, book.journal[1:]), ((), ()))
        for value in (*ODD, made.program, made.recorder, (made,), [made]):
            self.told(BadMaker, value, Book, value)

    def test_all_by_names(self):
        book = Book(maker=maker(TINY))
        self.same(book.begin_log(seats=(None,)), 0)
        book.add(log=0, item=None, second=())
        book.fill(log=0, copy=0, index=0, items=((None, None, None), 1))
        book.mend(log=0, copy=0, index=0, entry=GO)
        book.beside(log=0, items=(2,))
        book.finish(log=0, end='over')
        self.same(book.note(log=0, seat=0, copy=1, index=0, question=ASKED, truth=False), 0)
        self.same(book.begin_log(), 1)
        book.beside(1, ())
        self.same(book.ask(log=0, seat=0, question=ASKED)[0], 'always')
        self.same((book.makers_of(log=0, seat=0), book.writers(log=0, copy=0, index=0)), ((0,), (0,)))
        self.same(book.reasons(log=0, seat=0, question=ASKED)[:3], (((1, 0),), (), 'always'))
        self.same(book.suspects(question=ASKED), ((0, 0, 'always'), (1, 0, 'sometimes')))
        self.same(book.revise(first=0, last=0, lines=(), recorder=Recorder(level=2)), 1)
        self.same((book.sheet_of(log=0), book.end_of(log=0), book.seats_of(log=0)), (((GO, 1), (2,)), 'over', (None,)))
        self.same(book.findings_of(log=0), ((0, 0, 1, 0, ASKED, False),))
        book.drop(number=0)
        self.refused(book, Impossible, (), book.tie, log=0, other=1, items=(GO,))
        book.finish(0, None)
        self.same(book.begin_log((0,)), 2)
        self.same(book.until(log=2, question=ASKED)[:2], ('held', 2))
        book.undo()
        book.redo()
        self.same(book.tried(deed=lambda same: same.logs, hold=False), (0, 1, 2))

    def test_methods_return_none(self):
        book = self.book()
        for deed in (lambda: book.add(0, None), lambda: book.fill(0, 0, 0, (None, GO)), lambda: book.mend(0, 0, 1, GO),
                     lambda: book.beside(0, (None,)), lambda: book.finish(0, None), lambda: book.undo(), lambda: book.redo()):
            self.assertIsNone(deed())
        self.same(book.begin_log(), 1)
        book.beside(1, ())
        self.assertIsNone(book.tie(0, 1, ()))
        number = book.note(0, 0, 0, 2, ASKED, True)
        self.assertIsNone(book.drop(number))

    def test_what_is_asked_changes_nothing(self):
        book = self.book(FREE, (0, None), U, None)
        book.note(0, 1, 0, 2, ('did', 'a', 2), True)
        ahead = shown(book)
        for deed, words in ((book.ask, (0, 1, ASKED)), (book.makers_of, (0, 0)), (book.writers, (0, 0, 0)),
                            (book.suspects, (ASKED,)), (book.findings_of, (0,)), (book.sheet_of, (0,))):
            self.unchanged(deed, *words)
        self.same(shown(book), ahead)


class TestRevise(BookCase):
    def test_makers(self):
        made = maker(TINY, level=2)
        book = Book(made)
        for number, (words, more, text, recorder) in enumerate((
                ((3, 4, ('  log 2 go', '  log 3 more')), {}, TINY.replace('log 1 go', 'log 2 go\n  log 3 more'), made.recorder),
                ((0, 0, ()), {'recorder': Recorder(names=False)}, TINY.replace('log 1 go', 'log 2 go\n  log 3 more'), Recorder(names=False)),
                ((0, 8, tuple(PLAIN.program.text.split('\n'))), {'recorder': None}, PLAIN.program.text, Recorder(names=False)))):
            self.same(book.revise(*words, **more), number + 1)
            self.assertEqual(book.makers[-1], Maker(Program(text), recorder))
        self.assertEqual(book.makers[0], made)
        self.refused(book, TooMany, 4, book.revise, 0, 0, ())
        book.undo()
        self.same((len(book.makers), book.revise(8, 8, ('part p', '  stop'))), (3, 3))
        self.assertEqual(book.makers[3].program.text.split('\n')[-2:], ['part p', '  stop'])

    def test_errors(self):
        book = Book(maker(TINY))
        good = {'first': 3, 'last': 4, 'lines': ('  log 1 go',), 'recorder': None}
        lines = (*[value for value in ODD if value != ()], ('a\nb',), ('  stop', 1), ['  stop'], ('\n',))
        for name, values, error in (('first', (*[value for value in ODD if type(value) is not int], -1, 8, 9), BadLines),
                                    ('last', (*[value for value in ODD if type(value) is not int], 2, 8, -1, 0), BadLines),
                                    ('lines', lines, BadLines),
                                    ('recorder', (*[value for value in ODD if value is not None], maker(TINY)), BadRecorder)):
            for value in values:
                self.refused(book, error, value, book.revise, **{**good, name: value})
        self.told_in_sequence(book.revise, good, [('first', 8, BadLines), ('last', 2, BadLines), ('lines', ('\n',), BadLines),
                                                  ('recorder', 0, BadRecorder)])
        for lines, error, value in ((('  log 1 go ',), BadProgram, 3), (('  log 1 a', '  b: stop'), Doubled, 6), (('  set y 1',), Unnamed, 3),
                                    (('',), BadProgram, 3)):
            self.refused(book, error, value, book.revise, 3, 4, lines)
            self.told(BadRecorder, 1, book.revise, 3, 4, lines, recorder=1)
        self.refused(book, BadProgram, 0, book.revise, 0, 7, ())
        self.refused(book, BadProgram, 2, book.revise, 2, 7, ())
        for _ in range(3):
            book.revise(0, 0, ())
        self.refused(book, BadProgram, 3, book.revise, 3, 4, ('',))
        self.refused(book, TooMany, 4, book.revise, **good)
        self.told_in_sequence(book.revise, good, [('first', 8, BadLines), ('last', 2, BadLines), ('lines', ('\n',), BadLines),
                                                  ('recorder', 0, BadRecorder)])

    def test_seats_that_are_not_known(self):
        """A seat None may be of any maker that there is when it is asked."""
        book = self.book(None, (None,), GO)
        book.begin_log((0,))
        book.add(1, GO)
        self.same((book.makers_of(0, 0), book.ask(0, 0, ('did', 'a', 1))[0]), ((0,), 'always'))
        book.revise(2, 4, ('  log 1 go', '  a: ask x'))
        self.same((book.makers_of(0, 0), book.makers_of(1, 0)), ((0, 1), (0,)))
        self.same([book.ask(log, 0, ('did', 'a', 1))[0] for log in (0, 1)], ['sometimes', 'always'])
        book.revise(2, 3, ('  log 1 cold',))
        self.same(book.makers_of(0, 0), (0, 1))
        book.note(0, 0, 0, 1, ('did', 'a', 1), False)
        self.same((book.makers_of(0, 0), book.ask(0, 0, ('did', 'a', 1))[0]), ((1,), 'sometimes'))
        for _ in range(3):
            book.undo()
        self.same((book.makers_of(0, 0), len(book.makers)), ((0,), 1))


class TestLogs(BookCase):
    def test_begin(self):
        book = Book(maker(TINY))
        book.revise(0, 0, ())
        for number, seats in enumerate(((None,), (0,), (1,), (0, 1), (None, 1), (None, None), (1, 1))):
            self.same(book.begin_log(seats), number)
            self.same((book.seats_of(number), book.sheet_of(number), book.end_of(number), book.findings_of(number)), (seats, ((),), None, ()))
        self.same((book.begin_log(), book.logs), (7, tuple(range(8))))
        self.refused(book, TooMany, 8, book.begin_log, (0,))
        self.refused(book, BadSeats, (2,), book.begin_log, (2,))
        book.tie(4, 3, ())
        self.same((book.logs, book.begin_log()), ((0, 1, 2, 4, 5, 6, 7), 8))

    def test_errors(self):
        book = Book(maker(TINY))
        for value in (*[value for value in ODD if value not in ((0,), (None, None)) or value is True], (1,), (-1,), (0, 1), (True,), (False,), (0, False), (0, 0, 0), (),
                      [0], [None], (None, [])):
            self.refused(book, BadSeats, value, book.begin_log, value)
        for method in ('sheet_of', 'end_of', 'seats_of', 'findings_of'):
            for value in ODD:
                self.told(NoLog, value, getattr(book, method), value)
        self.same(book.begin_log(), 0)
        for value in (*[value for value in ODD if type(value) is bool or value != 0], 1, -1, '0'):
            for deed, words in ((book.sheet_of, ()), (book.end_of, ()), (book.seats_of, ()), (book.findings_of, ()), (book.add, (None,)),
                                (book.beside, ((),)), (book.fill, (0, 0, ())), (book.mend, (0, 0, GO)), (book.finish, (None,)),
                                (book.tie, (0, ())), (book.note, (0, 0, 0, ASKED, True)), (book.ask, (0, ASKED)),
                                (book.makers_of, (0,)), (book.writers, (0, 0)), (book.reasons, (0, ASKED)), (book.until, (ASKED,))):
                self.refused(book, NoLog, value, deed, value, *words)

    def test_add(self):
        book = self.book(FREE)
        items = (U, None, 3, (None, None, None), ('h', 'v', (None, 2)), (None, 'v', (1, None)), 1)
        for item in items:
            book.add(0, item)
        self.same(book.sheet_of(0), (items,))
        book.beside(0, (None,))
        book.add(0, U)
        book.add(0, 2, second=(None,))
        book.add(0, U, second=(1,))
        self.same(book.sheet_of(0), ((*items, U, 2, U), (None, U, None, 1)))
        for value in BAD_ITEMS:
            self.refused(book, BadItem, value, book.add, 0, value)
            self.refused(book, BadItem, value, book.add, 0, value, second=(U,))
            self.refused(book, BadItem, (value,), book.add, 0, U, second=(value,))
            if value != ():
                self.refused(book, BadItem, value, book.add, 0, U, second=value)
        self.refused(book, BadItem, (U, U), book.add, 0, U, second=(U, U))
        self.refused(book, BadItem, [U], book.add, 0, U, second=[U])
        self.refused(book, BadItem, 0, book.add, 0, 0, second=0)

    def test_add_to_one_copy(self):
        book = self.book(FREE, (None,), None)
        for second in ((U,), (None,), (0,), [], 0):
            self.refused(book, BadItem, second, book.add, 0, U, second=second)
            self.refused(book, BadItem, 0, book.add, 0, 0, second=second)
        self.refused(book, BadItem, 0, book.add, 0, 0)

    def test_twelve_items(self):
        book = self.book(FREE, (None,), *[None] * 12)
        self.refused(book, BadItem, U, book.add, 0, U)
        book.beside(0, (None,) * 11)
        self.refused(book, BadItem, U, book.add, 0, U)
        self.refused(book, BadItem, U, book.add, 0, U, second=(U,))
        book = self.book(FREE, (None,), None)
        book.beside(0, (None,) * 12)
        self.refused(book, BadItem, U, book.add, 0, U)
        self.refused(book, BadItem, (U,), book.add, 0, U, second=(U,))
        self.refused(book, BadItem, 0, book.add, 0, 0, second=(U,))
        book = self.book(FREE, (None,), *[None] * 11)
        book.add(0, 1)
        self.same(len(book.sheet_of(0)[0]), 12)

    def test_none_where_a_finding_is(self):
        book = self.book(FREE, (0,), 1)
        book.note(0, 0, 0, 1, ('did', 'a', 1), True)
        self.refused(book, BadItem, None, book.add, 0, None)
        book.beside(0, (None,))
        # Also if the item would come in the place of the first copy alone.
        self.refused(book, BadItem, None, book.add, 0, None)
        self.refused(book, BadItem, None, book.add, 0, None, second=(1,))
        book.add(0, 1, second=(None,))
        book.add(0, None)
        book.note(0, 0, 1, 3, ('did', 'a', 1), True)
        self.refused(book, BadItem, None, book.add, 0, None)
        self.refused(book, BadItem, (None,), book.add, 0, None, second=(None,))
        self.refused(book, BadItem, (None,), book.add, 0, 1, second=(None,))
        book.add(0, None, second=(1,))

    def test_beside(self):
        book = self.book(FREE, (None,), U, None)
        bad = (*BAD_COPIES, (None,) * 13)
        for value in bad:
            self.refused(book, BadItems, value, book.beside, 0, value)
        book.beside(0, (2, None))
        self.same(book.sheet_of(0), ((U, None), (2, None)))
        for value in ((), (None,), *bad):
            self.refused(book, BadItems, value, book.beside, 0, value)
        book = self.book(FREE)
        book.beside(0, ())
        self.same(book.sheet_of(0), ((), ()))
        other = self.book(FREE, (None,), U)
        self.refused(other, Impossible, (), other.beside, 0, ())
        self.refused(other, Impossible, (), other.beside, 0, (2,))

    def test_finish(self):
        book = self.book(None, (None,), GO)
        for end in ('over', 'open', None, 'over'):
            book.finish(0, end)
            self.same(book.end_of(0), end)
        # Ends do not bar further items: they hold of the log as it is then.
        book.add(0, HOT)
        self.same((book.end_of(0), book.ask(0, 0, ASKED)[0]), ('over', 'always'))
        self.refused(book, Impossible, (), book.add, 0, HOT)
        for value in BAD_ENDS:
            self.refused(book, BadEnd, value, book.finish, 0, value)
        book = self.book()
        self.refused(book, Impossible, (), book.finish, 0, 'over')


class TestFill(BookCase):
    def test_gaps(self):
        book = self.book(FREE, (None,), 3, None, U)
        book.fill(0, 0, 0, ((None, 'u', None), 2))
        self.same(book.sheet_of(0), (((None, 'u', None), 2, None, U),))
        book.fill(0, 0, 1, (1, 1))
        book.fill(0, 0, 3, ())
        self.same(book.sheet_of(0), (((None, 'u', None), 1, 1, U),))
        book.fill(0, 0, 1, ((None, None, ()),))
        book.add(0, None)
        book.fill(0, 0, 4, (None, 5, None))
        self.same(book.sheet_of(0)[0][3:], (U, None, 5, None))
        book.beside(0, (None,))
        book.fill(0, 1, 0, (9, None))
        self.same(book.sheet_of(0)[1], (9, None))

    def test_errors(self):
        book = self.book(FREE, (None,), 3, None, (None, None, None))
        good = {'log': 0, 'copy': 0, 'index': 0, 'items': (3,)}
        for value in (1, -1, *[value for value in ODD if type(value) is bool or value != 0]):
            self.refused(book, NoItem, value, book.fill, **{**good, 'copy': value})
        for value in (2, 3, 4, -1, *[value for value in ODD if type(value) is not int]):
            self.refused(book, NoItem, value, book.fill, **{**good, 'index': value})
        some = (*BAD_COPIES, (None,) * 11, (None,) * 13)
        for value in (*some, (), (2,), (4,), (None,), (None, 3), (1, 1), (1, 1, 1, 1), ((None, None, None),), (2, None), (True, 2), (1, 0, 2)):
            self.refused(book, BadItems, value, book.fill, **{**good, 'items': value})
        for value in some:
            self.refused(book, BadItems, value, book.fill, **{**good, 'index': 1, 'items': value})
        self.told_in_sequence(book.fill, good, [('log', 1, NoLog), ('copy', 1, NoItem), ('index', 2, NoItem), ('items', (2,), BadItems)])
        for value in ((None,) * 10, (3,), ()):
            self.assertIsNone(book.tried(lambda same: same.fill(0, 0, 1, value)))
        full = self.book(FREE, (None,), *[2] * 12)
        self.refused(full, BadItems, (1, 1), full.fill, 0, 0, 3, (1, 1))
        full.fill(0, 0, 3, (2,))

    def test_impossible(self):
        book = self.book(None, (None,), 1, None, end='over')
        self.refused(book, Impossible, (), book.fill, 0, 0, 0, (HOT,))
        book.fill(0, 0, 1, (HOT,))
        self.same(book.ask(0, 0, ASKED)[0], 'always')

    def test_findings_move(self):
        book = self.book(FREE, (0,), 2, None, 2, None, U)
        book.beside(0, (None, (None, None, None), None))
        for copy, index in ((0, 0), (0, 2), (0, 5), (1, 1)):
            book.note(0, 0, copy, index, ('did', 'a', 1), copy + index > 0)

        def places():
            return [finding[2:4] for finding in book.findings_of(0)]

        book.fill(0, 0, 1, ())
        self.same(places(), [(0, 0), (0, 1), (0, 4), (1, 1)])
        book.fill(0, 0, 0, (1, 1))
        self.same(places(), [(0, 0), (0, 2), (0, 5), (1, 1)])
        book.fill(0, 0, 3, (None, None, 3))
        self.same(places(), [(0, 0), (0, 2), (0, 7), (1, 1)])
        book.fill(0, 1, 2, ())
        book.fill(0, 1, 0, (None, None))
        self.same(places(), [(0, 0), (0, 2), (0, 7), (1, 2)])
        self.same(book.sheet_of(0), ((1, 1, 2, None, None, 3, U), (None, None, (None, None, None))))
        self.same([finding[0] for finding in book.findings_of(0)], [0, 1, 2, 3])


class TestMend(BookCase):
    def test_entries(self):
        book = self.book(FREE, (None,), (None, None, None), 1, None)
        for entry in ((None, 'v', None), (None, 'v', (None, None)), ('h', 'v', (None, 1)), V, V):
            book.mend(0, 0, 0, entry)
            self.same(book.sheet_of(0)[0][0], entry)

    def test_errors(self):
        book = self.book(FREE, (None,), ('h', None, (None, 1)), 1, None)
        good = {'log': 0, 'copy': 0, 'index': 0, 'entry': ('h', 'v', (1, 1))}
        for value in (1, -1, *[value for value in ODD if type(value) is bool or value != 0]):
            self.refused(book, NoItem, value, book.mend, **{**good, 'copy': value})
        for value in (1, 2, 3, 4, -1, *[value for value in ODD if type(value) is bool or value != 0]):
            self.refused(book, NoItem, value, book.mend, **{**good, 'index': value})
        for value in (*ODD, ('k', 'v', (1, 1)), (None, 'v', (1, 1)), ('h', 'v', None), ('h', 'v', (1,)), ('h', 'v', (1, None)), ('h', 'v', (1, 2)),
                      ('h', 'v', ()), ['h', 'v', (1, 1)], ('h', 'v', [1, 1]), ('h', 'v', (1, 1, 1)), ('h', 'v', (1, True)), ('h', 'v', (4, 1)),
                      ('h', 'V', (1, 1)), 2, None):
            self.refused(book, BadItem, value, book.mend, **{**good, 'entry': value})
        self.told_in_sequence(book.mend, good, [('log', 1, NoLog), ('copy', 1, NoItem), ('index', 1, NoItem), ('entry', None, BadItem)])
        self.refused(book, Impossible, (), book.mend, 0, 0, 0, ('h', 'v', (0, 1)))
        self.refused(book, Impossible, (), book.mend, 0, 0, 0, ('h', 'w', (1, 1)))
        book.mend(**good)


class TestTie(BookCase):
    def two(self, seats=((None,), (None,)), ahead=(U, None), behind=(2,), made=FREE):
        book = Book(made)
        for number, items in enumerate((ahead, behind)):
            book.begin_log(seats[number])
            for item in items:
                book.add(number, item)
        return book

    def test_one_copy(self):
        book = self.two()
        book.finish(0, 'open')
        book.finish(0, None)
        book.finish(1, 'open')
        number = book.note(1, 0, 0, 1, ('did', 'a', 1), True)
        ahead = book.note(0, 0, 0, 0, ('did', 'a', 1), False)
        book.tie(0, 1, (None, 1))
        self.same((book.logs, book.sheet_of(0), book.end_of(0)), ((0,), ((U, None, None, 1, 2),), 'open'))
        self.same(book.findings_of(0), ((number, 0, 0, 5, ('did', 'a', 1), True), (ahead, 0, 0, 0, ('did', 'a', 1), False)))
        self.refused(book, NoLog, 1, book.sheet_of, 1)
        self.same(book.begin_log(), 2)
        self.refused(book, NoLog, 1, book.tie, 2, 1, ())
        book.drop(0)
        self.same([finding[0] for finding in book.findings_of(0)], [1])

    def test_two_copies(self):
        book = self.two()
        book.beside(0, (None,))
        self.refused(book, BadTie, 1, book.tie, 0, 1, ())
        book.beside(1, (1, 1))
        book.note(1, 0, 1, 1, ('did', 'a', 1), True)
        book.tie(0, 1, (3,))
        self.same(book.sheet_of(0), ((U, None, 3, 2), (None, 3, 1, 1)))
        self.same(book.findings_of(0)[0][2:4], (1, 3))

    def test_own_end_is_forgotten(self):
        book = self.book(None, (0,), GO, end='over')
        book.begin_log((0,))
        book.add(1, None)
        book.add(1, HOT)
        book.tie(0, 1, ())
        self.same((book.sheet_of(0), book.end_of(0), book.ask(0, 0, ASKED)[0]), (((GO, None, HOT),), None, 'always'))

    def test_seats(self):
        for one, other, expected in (((None,), (None,), (None,)), ((0,), (None,), (0,)), ((None,), (0,), (0,)), ((0,), (0,), (0,)), ((0,), (1,), None),
                                     ((0, None), (None, 1), (0, 1)), ((0, None), (None, None), (0, None)), ((0, 1), (0, 0), None),
                                     ((0,), (0, 0), None), ((None, None), (None,), None)):
            book = Book(FREE)
            book.revise(0, 0, ())
            self.same([book.begin_log(one), book.begin_log(other)], [0, 1])
            if expected is None:
                self.refused(book, BadTie, 1, book.tie, 0, 1, ())
                self.refused(book, BadTie, 1, book.tie, 0, 1, (0,))
            else:
                book.tie(0, 1, ())
                self.same(book.seats_of(0), expected)

    def test_errors(self):
        book = self.two()
        good = {'log': 0, 'other': 1, 'items': ()}
        for value in (2, -1, *[value for value in ODD if type(value) is bool or value not in (0, 1)]):
            self.refused(book, NoLog, value, book.tie, **{**good, 'log': value})
            self.refused(book, NoLog, value, book.tie, **{**good, 'other': value})
        self.refused(book, BadTie, 0, book.tie, 0, 0, ())
        self.refused(book, BadTie, 1, book.tie, 1, 1, 0)
        for value in (*BAD_COPIES, (None,) * 13, (None,) * 10):
            self.refused(book, BadItems, value, book.tie, **{**good, 'items': value})
        self.told_in_sequence(book.tie, good, [('log', 5, NoLog), ('other', 6, NoLog), ('items', (0,), BadItems)])
        book.tie(0, 1, (None,) * 9)
        self.same(len(book.sheet_of(0)[0]), 12)

    def test_twelve_items(self):
        book = self.two(ahead=[None] * 6, behind=[1] + [None] * 6)
        for items in ((), (None,), (U,), (0,)):
            self.refused(book, BadItems, items, book.tie, 0, 1, items)
        book = self.two(ahead=[None] * 6, behind=[None] * 6)
        self.refused(book, BadItems, (1,), book.tie, 0, 1, (1,))
        book.beside(0, (None,))
        book.beside(1, (None,) * 12)
        self.refused(book, BadItems, (), book.tie, 0, 1, ())
        book.fill(1, 1, 0, ())
        book.tie(0, 1, ())
        self.same([len(copy) for copy in book.sheet_of(0)], [12, 12])

    def test_none_where_a_finding_is(self):
        book = self.two(ahead=(1,), behind=(None, 1))
        book.note(0, 0, 0, 1, ('did', 'a', 1), True)
        self.refused(book, BadTie, 1, book.tie, 0, 1, ())
        self.refused(book, BadItems, (None,), book.tie, 0, 1, (None,))
        self.refused(book, BadItems, (None, 1), book.tie, 0, 1, (None, 1))
        self.refused(book, BadItems, [], book.tie, 0, 1, [])
        book.tried(lambda same: same.tie(0, 1, (1, None)))
        # Also if a copy would have too many items.
        for _ in range(10):
            book.add(1, None)
        self.refused(book, BadTie, 1, book.tie, 0, 1, ())
        self.refused(book, BadItems, (1,), book.tie, 0, 1, (1,))
        # A finding of the other one at its first spot, or behind the other one's last, bars nothing.
        book = self.two(ahead=(1, None), behind=(1,))
        book.note(1, 0, 0, 0, ('did', 'a', 1), True)
        book.note(1, 0, 0, 1, ('did', 'a', 1), True)
        book.tie(0, 1, (None,))
        self.same([finding[3] for finding in book.findings_of(0)], [3, 4])
        # In the second copy.
        book = self.two(ahead=(1,), behind=(1,))
        book.beside(0, (1,))
        book.beside(1, (None,))
        book.note(0, 0, 0, 1, ('did', 'a', 1), True)
        book.tried(lambda same: same.tie(0, 1, ()))
        book.note(0, 0, 1, 1, ('did', 'a', 1), True)
        self.refused(book, BadTie, 1, book.tie, 0, 1, ())
        book.tried(lambda same: same.tie(0, 1, (1,)))

    def test_four_findings(self):
        book = self.two()
        for log in (0, 0, 1, 1):
            book.note(log, 0, 0, 0, ('fell', 1), False)
        book.tried(lambda same: same.tie(0, 1, ()))
        book.note(1, 0, 0, 1, ('fell', 1), False)
        self.refused(book, TooMany, 4, book.tie, 0, 1, ())
        self.refused(book, BadItems, (0,), book.tie, 0, 1, (0,))
        self.refused(book, BadTie, 0, book.tie, 0, 0, ())

    def test_impossible(self):
        book = self.two(ahead=(GO,), behind=(GO,), made=maker(TINY))
        self.refused(book, Impossible, (), book.tie, 0, 1, ())
        book = self.two(ahead=(GO,), behind=(), made=maker(TINY))
        book.note(0, 0, 0, 0, ASKED, True)
        book.note(1, 0, 0, 0, ('fell', 1), False)
        book.note(1, 0, 0, 0, ('was', 'x', 1), False)
        # Each of the logs is possible; together the first finding and the last one contradict.
        self.refused(book, Impossible, (0, 2), book.tie, 0, 1, ())
        book.finish(1, 'open')
        self.refused(book, Impossible, (0, 2), book.tie, 0, 1, ())


class TestNote(BookCase):
    good = {'log': 0, 'seat': 0, 'copy': 0, 'index': 0, 'question': ASKED, 'truth': True}

    def test_errors(self):
        book = self.book(None, (None,), GO, None)
        wrong = {'seat': (1, -1, *[value for value in ODD if type(value) is bool or value != 0]),
                 'copy': (1, -1, *[value for value in ODD if type(value) is bool or value != 0]),
                 'index': (1, 3, -1, *[value for value in ODD if type(value) is not int], True, False),
                 'question': (*ODD, ('did', 'd', 1), ('asked', 'a', 2)), 'truth': [value for value in ODD if type(value) is not bool]}
        errors = {'log': NoLog, 'seat': NoSeat, 'copy': NoItem, 'index': NoItem, 'question': BadQuestion, 'truth': BadTruth}
        for name, values in wrong.items():
            for value in values:
                self.refused(book, errors[name], value, book.note, **{**self.good, name: value})
        self.told_in_sequence(book.note, self.good, [('log', 1, NoLog), ('seat', 1, NoSeat), ('copy', 1, NoItem), ('index', 1, NoItem),
                                                     ('question', 0, BadQuestion), ('truth', 0, BadTruth)])
        for index in (0, 2):
            book.tried(lambda same: same.note(0, 0, 0, index, ASKED, index == 2))
        book = self.book(None, (None,), None, GO, None, HOT)
        for index in (0, 2):
            self.refused(book, NoItem, index, book.note, **{**self.good, 'index': index})
        for index in (1, 3, 4):
            book.tried(lambda same: same.note(0, 0, 0, index, ASKED, True))

    def test_numbers(self):
        book = self.book(None, (0,))
        book.begin_log()
        self.same([book.note(log, 0, 0, 0, ('fell', 1), False) for log in (0, 1, 0, 1, 0, 0)], [0, 1, 2, 3, 4, 5])
        self.same([finding[0] for finding in book.findings_of(0)], [0, 2, 4, 5])
        self.refused(book, TooMany, 4, book.note, **{**self.good, 'question': ('fell', 1), 'truth': False})
        self.refused(book, BadTruth, 1, book.note, **{**self.good, 'truth': 1})
        # Also if it would contradict.
        self.refused(book, TooMany, 4, book.note, **{**self.good, 'question': ('fell', 1)})
        book.drop(2)
        self.same((book.note(0, 0, 0, 0, ASKED, False), book.note(1, 0, 0, 0, ASKED, False)), (6, 7))
        for value in (2, 8, -1, *[value for value in ODD if type(value) is bool or value not in (0, 1, 5)]):
            self.refused(book, NoFinding, value, book.drop, value)
        for number in (0, 1, 3, 4, 5, 6, 7):
            book.drop(number)
        self.same((book.findings_of(0), book.findings_of(1)), ((), ()))

    def test_makers_by_questions(self):
        """A question of one maker alone: other ones do not suit."""
        book = Book(maker(TINY))
        book.revise(0, 7, tuple(PLAIN.program.text.split('\n')))
        for seats in ((None,), (0,), (1,), (None, 1)):
            book.begin_log(seats)
        self.refused(book, BadQuestion, ('did', 'd', 1), book.note, 1, 0, 0, 0, ('did', 'd', 1), False)
        self.refused(book, BadQuestion, ASKED, book.note, 2, 0, 0, 0, ASKED, False)
        self.refused(book, BadQuestion, ASKED, book.note, 3, 1, 0, 0, ASKED, False)
        self.refused(book, BadQuestion, ('and', ASKED, ('did', 'd', 1)), book.note, 0, 0, 0, 0, ('and', ASKED, ('did', 'd', 1)), False)
        self.same(book.makers_of(0, 0), (0, 1))
        number = book.note(0, 0, 0, 0, ('did', 'd', 1), False)
        self.same(book.makers_of(0, 0), (1,))
        # No maker has both questions.
        self.same(book.ask(0, 0, ASKED), ('none', ()))
        self.refused(book, Impossible, (number, number + 1), book.note, 0, 0, 0, 0, ASKED, False)
        self.refused(book, BadQuestion, ('did', 'z', 1), book.ask, 0, 0, ('did', 'z', 1))
        self.refused(book, BadQuestion, ASKED, book.ask, 2, 0, ASKED)
        book.add(0, ('k', 'u', ()))
        self.same(book.ask(0, 0, ('did', 'd', 1))[0], 'always')
        self.same(book.suspects(ASKED), ((0, 0, 'none'), (1, 0, 'sometimes'), (2, 0, 'unknown'), (3, 0, 'sometimes'), (3, 1, 'unknown')))
        self.same(book.suspects(0), ((0, 0, 'unknown'), (1, 0, 'unknown'), (2, 0, 'unknown'), (3, 0, 'unknown'), (3, 1, 'unknown')))

    def test_none_of_this_maker(self):
        """The maker that has the question cannot have written the log."""
        book = Book(maker(TINY))
        book.revise(0, 7, tuple(PLAIN.program.text.split('\n')))
        book.begin_log()
        book.add(0, GO)
        told = book.ask(0, 0, ('did', 'd', 1))
        self.same((told[0], [numbers for numbers, _ in told[1]]), ('none', [(1,)]))
        self.same(book.makers_of(0, 0), (0,))
        self.told(BadQuestion, ('did', 'z', 1), book.reasons, 0, 0, ('did', 'z', 1))

    def test_moments(self):
        """What was seen at a moment says nothing of others: the finding is of the run so far."""
        book = self.book(None, (0,), GO, HOT, end='over')
        for question, index, truths in ((('did', 'b', 1), 1, (False,)), (('did', 'b', 1), 2, (True,)), (('did', 'a', 1), 0, (True, False)),
                                        (('at', 'h', 'b'), 1, (True, False)), (('at', 'h', 'c'), 1, (False,)), (('at', 'h', 'c'), 2, (True, False)),
                                        (('ended', 'done'), 2, (True, False)), (('ended', 'done'), 1, (False,)), (ASKED, 1, (True,))):
            for truth in (True, False):
                if truth in truths:
                    book.tried(lambda same: same.note(0, 0, 0, index, question, truth))
                else:
                    self.refused(book, Impossible, (0,), book.note, 0, 0, 0, index, question, truth)

    def test_several_findings_need_one_way(self):
        """Each finding alone has a way of taking the log, together they have none."""
        made = maker('cell x 1\nhand h\n  log 1 u\n  a: flush\n  log 1 u\n  b: flush')
        book = self.book(made, (0,), None, U)
        first = book.note(0, 0, 0, 1, ('did', 'a', 1), True)
        self.refused(book, Impossible, (first, 1), book.note, 0, 0, 0, 2, ('did', 'a', 1), False)
        book.drop(first)
        book.note(0, 0, 0, 2, ('did', 'a', 1), False)

    def test_contradictions(self):
        book = self.book(None, (0,), GO)
        book.note(0, 0, 0, 0, ('fell', 1), False)
        book.note(0, 0, 0, 1, ('was', 'x', 1), True)
        book.note(0, 0, 0, 1, ('did', 'a', 1), True)
        # From the least number on is left out what can be.
        self.refused(book, Impossible, (1, 3), book.note, 0, 0, 0, 1, ('asked', 'a', 0), True)
        book.add(0, HOT)
        book.undo()
        self.refused(book, Impossible, (), book.add, 0, GO)
        book.finish(0, 'open')
        self.refused(book, Impossible, (1,), book.finish, 0, 'over')

    def test_of_two_runs(self):
        """Moments of both runs lie in one sequence of all steps."""
        made = maker('hand h\n  a: log 1 u\n  b: flush', names=False)
        book = self.book(made, (0, 0), (None, 'u', ()), (None, 'u', ()))
        book.note(0, 0, 0, 0, ('did', 'a', 1), False)
        self.refused(book, Impossible, (1,), book.note, 0, 0, 0, 0, ('did', 'a', 1), True)
        book.note(0, 0, 0, 1, ('did', 'b', 1), True)
        # So the first entry is of run 0.
        self.same((book.writers(0, 0, 0), book.writers(0, 0, 1)), ((0,), (1,)))
        self.refused(book, Impossible, (1, 2), book.note, 0, 1, 0, 1, ('did', 'a', 1), True)
        book.note(0, 1, 0, 1, ('did', 'a', 1), False)
        self.same(book.ask(0, 1, ('did', 'a', 1))[0], 'always')


class TestLimits(BookCase):
    """Two runs with so many stands: pairs of them are members."""

    def stands(self, many):
        return f'cell x 3\ncell y 3\nhand h\n  a: ask x\n  ask y' + '\n  ask x' * many

    def test_begin(self):
        made = maker(self.stands(2))
        book = Book(made)
        # 1 + 4 + 16 + 16 + 16 stands.
        self.same(book.begin_log((0, 0)), 0)
        book.revise(6, 6, ('  ask x',))
        self.same(len(book.ask(0, 0, ('fell', 1))[1][0][1]), 53 * 53)
        self.refused(book, TooMany, 4000, book.begin_log, (1, 1))
        self.refused(book, TooMany, 4000, book.begin_log, (None, None))
        self.refused(book, BadSeats, (2, 2), book.begin_log, (2, 2))
        self.same(book.begin_log((1, 0)), 1)

    def test_just(self):
        """4000 members are let, 4002 are not."""
        for one, other, fine in ((standing(1, 1, 4), standing(3, 1, 2), True), (standing(1, 3, 4), standing(2, 0, 3), False)):
            book = Book(one)
            text = one.program.text.split('\n')
            book.revise(0, len(text), tuple(other.program.text.split('\n')))
            if fine:
                book.begin_log((0, 1))
                self.same(len(book.ask(0, 0, ('fell', 1))[1][0][1]), 4000)
                book.begin_log((0, 0))
                self.refused(book, TooMany, 4000, book.begin_log, (1, 1))
            else:
                self.refused(book, TooMany, 4000, book.begin_log, (0, 1))
                self.refused(book, TooMany, 4000, book.begin_log, (1, 0))

    def test_deeds(self):
        """A log of seats that are not known: with a further maker each deed is too much, but drop, revise and undo are not."""
        book = Book(maker(self.stands(2)))
        book.begin_log((None, None))
        book.begin_log((None, None))
        number = book.note(0, 0, 0, 0, ('fell', 1), False)
        book.revise(6, 6, ('  ask x',))
        book.revise(6, 6, ('  ask x',))
        for deed, words in ((book.add, (0, 1)), (book.add, (0, GO)), (book.beside, (0, ())), (book.finish, (0, 'over')), (book.tie, (0, 1, ())),
                            (book.note, (0, 0, 0, 0, ('fell', 1), True)), (book.makers_of, (0, 0)), (book.ask, (0, 0, ('fell', 1))),
                            (book.reasons, (0, 0, ('fell', 1))), (book.suspects, (('fell', 1),)), (book.begin_log, ((None, 0),))):
            self.refused(book, TooMany, 4000, deed, *words)
        # Behind all else.
        for error, value, deed, words in ((BadItem, 0, book.add, (0, 0)), (BadItems, 0, book.beside, (0, 0)), (BadEnd, 0, book.finish, (0, 0)),
                                          (BadItems, 0, book.tie, (0, 1, 0)), (BadTruth, 0, book.note, (0, 0, 0, 0, ('fell', 1), 0)),
                                          (NoSeat, 2, book.makers_of, (0, 2)), (BadQuestion, 0, book.ask, (0, 0, 0)), (BadQuestion, 0, book.reasons, (0, 0, 0))):
            self.refused(book, error, value, deed, *words)
        book.drop(number)
        book.undo()
        book.redo()
        book.revise(0, 0, ())
        self.same(book.suspects(0), ((0, 0, 'unknown'), (0, 1, 'unknown'), (1, 0, 'unknown'), (1, 1, 'unknown')))
        for _ in range(4):
            book.undo()
        book.finish(0, None)

    def test_memories_of_findings(self):
        """With findings there are more members; without them there are few enough."""
        book = Book(maker(self.stands(2) + '\n  log 1 u x'))
        book.begin_log((0, 0))
        book.note(0, 0, 0, 0, ('fell', 1), False)
        self.refused(book, TooMany, 4000, book.note, 0, 0, 0, 0, ('asked', 'a', 1), False)
        self.refused(book, TooMany, 4000, book.ask, 0, 0, ('asked', 'a', 1))
        self.same(book.ask(0, 0, ('is', 'x', 1))[0], 'sometimes')
        self.same(book.makers_of(0, 0), (0,))

    def test_until(self):
        book = Book(maker('cell x 3\nhand h\n' + '  ask x\n' * 15 + '  set x 0\n  a: flush\n  flush'))
        book.begin_log((0,))
        self.refused(book, TooMany, 4000, book.until, 0, ('fell', 1))
        self.refused(book, BadQuestion, ('not', ('fell', 1)), book.until, 0, ('not', ('fell', 1)))
        self.same(book.ask(0, 0, ('fell', 1))[0], 'never')


if __name__ == '__main__':
    unittest.main()
