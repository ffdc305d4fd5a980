import random
import unittest

from loggedruns.books import Book
from loggedruns.errors import BadItem, BadLines, Impossible, NoLog, NothingToRedo, NothingToUndo
from loggedruns.journals import read_journal
from loggedruns.makers import Recorder
from tests.bookcase import ASKED, GO, HOT, BookCase, content, shown
from tests.common import ODD, TINY, maker
from tests.test_books import FREE, U

# Each deed, with what has to be there ahead of it.
DEEDS = (
    ('revise', (3, 4, ('    a: ask x',)), {'recorder': Recorder(names=False)}), ('begin_log', ((0, None),), {}),
    ('begin_log', (), {}), ('add', (1, None), {}), ('note', (1, 0, 0, 1, ('fell', 1), False), {}), ('fill', (1, 0, 0, (U, None, 2)), {}),
    ('beside', (1, (None, (None, None, None))), {}), ('add', (1, 3), {'second': (None,)}), ('mend', (1, 1, 1, ('h', None, ())), {}),
    ('finish', (1, 'open'), {}), ('begin_log', ((None,),), {}), ('beside', (2, (None,)), {}), ('tie', (1, 2, (None,)), {}),
    ('note', (1, 0, 1, 1, ('did', 'a', 1), True), {}), ('drop', (0,), {}))


def do(book, deed):
    name, words, more = deed
    return getattr(book, name)(*words, **more)


def plain_state(book):
    return [part for k, part in enumerate(content(book)) if k != 2]


class TestUndo(BookCase):
    def test_all_deeds(self):
        book = Book(FREE)
        states, results = [plain_state(book)], []
        for deed in DEEDS:
            results.append(do(book, deed))
            states.append(plain_state(book))
        self.same(results, [1, 0, 1, None, 0, None, None, None, None, None, 2, None, None, 1, None])
        for state in states[-2::-1]:
            self.assertIsNone(book.undo())
            self.assertEqual(plain_state(book), state)
        self.refused(book, NothingToUndo, None, book.undo)
        for state in states[1:]:
            self.assertIsNone(book.redo())
            self.assertEqual(plain_state(book), state)
        self.refused(book, NothingToRedo, None, book.redo)
        many = len(DEEDS)
        self.same(book.journal[1 + many:], ('undo',) * many + ('redo',) * many)
        self.same(shown(read_journal(book.journal)), shown(book))

    def test_numbers_are_given_anew(self):
        book = Book(FREE)
        self.same([do(book, deed) for deed in DEEDS][-2], 1)
        for _ in range(len(DEEDS)):
            book.undo()
        self.same([book.begin_log(), book.revise(0, 0, ()), book.note(0, 0, 0, 0, ('fell', 1), False)], [0, 1, 0])
        self.refused(book, NothingToRedo, None, book.redo)
        # What was dropped, or tied, keeps its number.
        book.drop(0)
        self.same(book.note(0, 0, 0, 0, ('fell', 1), False), 1)
        book.undo()
        book.undo()
        self.same((book.findings_of(0)[0][0], book.note(0, 0, 0, 0, ('fell', 1), False)), (0, 1))

    def test_refused_deeds_between(self):
        book = self.book(maker(TINY), (None,), GO)
        book.undo()
        self.refused(book, BadItem, 0, book.add, 0, 0)
        self.refused(book, NoLog, 1, book.add, 1, None)
        self.refused(book, BadLines, 9, book.revise, 9, 9, ())
        self.refused(book, Impossible, (), book.finish, 0, 'over')
        book.redo()
        self.same(book.sheet_of(0), ((GO,),))
        book.undo()
        book.add(0, None)
        self.refused(book, NothingToRedo, None, book.redo)
        book.undo()
        book.undo()
        self.refused(book, NothingToUndo, None, book.undo)
        book.redo()
        book.redo()
        self.same(book.sheet_of(0), ((None,),))
        self.same(book.journal[1:], ('log ?', 'add 0 h go -', 'undo', 'redo', 'undo', 'add 0 gap ?', 'undo', 'undo', 'redo', 'redo'))

    def test_new(self):
        book = Book(maker(TINY))
        self.refused(book, NothingToUndo, None, book.undo)
        self.refused(book, NothingToRedo, None, book.redo)


class TestTrial(BookCase):
    def test_not_held(self):
        book = self.book(FREE, (None,), U)
        book.add(0, None)
        book.undo()
        ahead = shown(book)
        with book.trial() as trial:
            self.assertIsNotNone(trial)
            do(book, DEEDS[0])
            book.add(0, 1)
            book.finish(0, 'open')
            self.same((book.begin_log(), book.note(0, 0, 0, 0, ('fell', 1), False)), (1, 0))
            self.same(len(book.makers), 2)
            self.assertNotEqual(shown(book), ahead)
        self.same(shown(book), ahead)
        # What can be undone and done again is as it was, too, and the numbers.
        book.redo()
        self.same(book.sheet_of(0), ((U, None),))
        self.same((book.begin_log(), book.revise(0, 0, ()), book.note(0, 0, 0, 0, ('fell', 1), False)), (1, 1, 0))

    def test_held(self):
        book = self.book(FREE, (None,), U)
        with book.trial() as trial:
            book.add(0, 1)
            self.assertIsNone(trial.hold())
            book.add(0, 2)
        self.same(book.sheet_of(0), ((U, 1, 2),))
        self.same(book.journal[2:], ('add 0 h u -', 'add 0 gap 1', 'add 0 gap 2'))
        book.undo()
        self.same(book.sheet_of(0), ((U, 1),))
        book.undo()
        book.redo()
        self.same(book.sheet_of(0), ((U, 1),))

    def test_errors(self):
        book = self.book(FREE, (None,), U)
        ahead = shown(book)
        for error in (NoLog(1), KeyError('x'), BadItem(0)):
            with self.assertRaises(type(error)):
                with book.trial() as trial:
                    book.add(0, 1)
                    trial.hold()
                    raise error
            self.same(shown(book), ahead)
        with self.assertRaises(NoLog) as held:
            with book.trial() as trial:
                trial.hold()
                book.add(0, 1)
                book.add(1, 1)
        self.same(held.exception.value, 1)
        self.same(shown(book), ahead)
        # An error that does not leave the block.
        with book.trial() as trial:
            trial.hold()
            book.add(0, 1)
            try:
                book.add(1, 1)
            except NoLog:
                pass
        self.same(book.sheet_of(0), ((U, 1),))

    def test_undo_behind_the_beginning(self):
        book = self.book(FREE, (None,), U, 1)
        ahead = shown(book)
        with book.trial():
            for _ in range(3):
                book.undo()
            self.same(book.logs, ())
            self.refused(book, NothingToUndo, None, book.undo)
            book.redo()
            self.same((book.begin_log(), book.logs), (1, (0, 1)))
        self.same(shown(book), ahead)
        with book.trial() as trial:
            book.undo()
            book.undo()
            book.add(0, 2)
            trial.hold()
        self.same((book.sheet_of(0), book.journal[2:]), (((2,),), ('add 0 h u -', 'add 0 gap 1', 'undo', 'undo', 'add 0 gap 2')))
        book.undo()
        book.undo()
        self.refused(book, NothingToUndo, None, book.undo)
        book.redo()
        book.redo()
        self.refused(book, NothingToRedo, None, book.redo)

    def test_within_one_another(self):
        for outer, inner, expected in ((True, True, (U, 1, 2, 3)), (True, False, (U, 1, 3)), (False, True, (U,)), (False, False, (U,))):
            book = self.book(FREE, (None,), U)
            with book.trial() as first:
                book.add(0, 1)
                with book.trial() as second:
                    book.add(0, 2)
                    if inner:
                        second.hold()
                self.same(book.sheet_of(0), ((U, 1, 2) if inner else (U, 1),))
                book.add(0, 3)
                if outer:
                    first.hold()
            self.same(book.sheet_of(0), (expected,))
            self.same(shown(read_journal(book.journal)), shown(book))
        # Only the inner block is left by an error.
        book = self.book(FREE, (None,), U)
        with book.trial() as first:
            first.hold()
            book.add(0, 1)
            try:
                with book.trial() as second:
                    second.hold()
                    book.add(0, 2)
                    raise KeyError
            except KeyError:
                pass
        self.same(book.sheet_of(0), ((U, 1),))

    def test_journal_within(self):
        book = self.book(FREE)
        with book.trial():
            book.add(0, 1)
            with book.trial():
                book.add(0, 2)
                self.same(book.journal[1:], ('log ?', 'add 0 gap 1', 'add 0 gap 2'))
                self.same(shown(read_journal(book.journal)), shown(book))
            self.same(book.journal[1:], ('log ?', 'add 0 gap 1'))

    def test_tried(self):
        book = self.book(FREE, (None,), U)
        ahead = shown(book)
        for value in (*[value for value in ODD if value is not True], 'yes', 1):
            self.same(book.tried(lambda same: (same is book, same.begin_log()), hold=value), (True, 1))
            self.same(shown(book), ahead)
        self.same(book.tried(lambda same: same.begin_log()), 1)
        self.same(shown(book), ahead)
        self.assertIsNone(book.tried(deed=lambda same: same.add(0, 1)))
        self.same(book.tried(lambda same: same.begin_log(), hold=True), 1)
        self.same(book.journal[2:], ('add 0 h u -', 'log ?'))
        self.refused(book, NoLog, 5, book.tried, lambda same: same.add(0, 1) or same.add(5, 1), hold=True)
        with self.assertRaises(TypeError):
            book.tried(lambda same: same.begin_log(), True)

    def test_tried_within(self):
        book = self.book(FREE)
        self.same(book.tried(lambda same: [same.tried(lambda inner: inner.begin_log(), hold=True), same.logs, same.begin_log()]),
                  [1, (0, 1), 2])
        self.same(book.logs, (0,))


class TestSeveralWays(BookCase):
    """The same book by several ways tells the same."""

    questions = (ASKED, ('did', 'a', 2), ('is', 'x', 0), ('ended', 'open'), ('asked', 'a', 2), ('not', ('was', 'x', 3)))

    def tells(self, book, log=0):
        found = [book.sheet_of(log), book.end_of(log), [finding[1:] for finding in book.findings_of(log)]]
        for question in self.questions:
            told = book.ask(log, 0, question)
            found.append(told)
            if told[0] in ('always', 'never'):
                left, numbers, word, tables = book.reasons(log, 0, question)
                order = [finding[0] for finding in book.findings_of(log)]
                found.append((left, tuple(order.index(number) for number in numbers), word, tables))
        found.append([book.writers(log, copy, index) for copy, items in enumerate(book.sheet_of(log))
                      for index, item in enumerate(items) if isinstance(item, tuple)])
        found.append((book.makers_of(log, 0), [book.until(log, ASKED)] if book.seats_of(log)[0] is not None else None))
        return found

    def test_ways(self):
        v = ('h', 'v', (1, 1))
        seen = (('did', 'a', 1), False)
        ways = []

        def way(*steps):
            book = Book(FREE)
            for name, *words in steps:
                getattr(book, name)(*words)
            ways.append(self.tells(book))

        # ((U, None, v), (3,)) over open, and that the row a was not done at first.
        way(('begin_log', (0,)), ('add', 0, U), ('add', 0, None), ('add', 0, v), ('beside', 0, (3,)), ('finish', 0, 'open'), ('note', 0, 0, 0, 0, *seen))
        way(('begin_log', (0,)), ('note', 0, 0, 0, 0, *seen), ('add', 0, (None, None, None)), ('finish', 0, 'open'), ('add', 0, None), ('mend', 0, 0, 0, U),
            ('add', 0, ('h', 'v', (1, None))), ('beside', 0, (None,)), ('fill', 0, 1, 0, (3,)), ('mend', 0, 0, 2, v))
        way(('begin_log', (None,)), ('add', 0, U), ('begin_log', (0,)), ('add', 1, None), ('add', 1, v), ('tie', 0, 1, ()), ('note', 0, 0, 0, 0, *seen),
            ('add', 0, 1), ('undo',), ('finish', 0, 'open'), ('beside', 0, (3,)))
        way(('begin_log', (0,)), ('add', 0, 3), ('beside', 0, (1, 1, 1)), ('fill', 0, 0, 0, (U, 2)), ('undo',), ('undo',), ('fill', 0, 0, 0, (U, 2)),
            ('undo',), ('undo',), ('add', 0, U), ('add', 0, None), ('note', 0, 0, 0, 0, *seen), ('add', 0, v), ('finish', 0, 'open'), ('beside', 0, (3,)))
        way(('begin_log', (0,)), ('begin_log', (0,)), ('begin_log', (None,)), ('add', 1, None), ('add', 2, U), ('note', 2, 0, 0, 0, *seen), ('add', 1, v),
            ('tie', 2, 1, ()), ('beside', 2, (3,)), ('finish', 2, 'open'), ('beside', 0, ()), ('finish', 0, 'open'), ('undo',), ('tie', 0, 2, ()))
        for other in ways[1:]:
            self.same(other, ways[0])

    def test_random(self):
        """Deeds in another sequence, with others taken back, tied and tried between."""
        rng = random.Random(83)
        for _ in range(25):
            items = [rng.choice([U, None, 1, 2, (None, None, None), ('h', 'v', (1, None))]) for _ in range(rng.randint(1, 4))]
            findings = [(0, 0, index, ('did', 'a', rng.randint(1, 2)), rng.random() < 0.5) for index in range(len(items) + 1)
                        if (items + [0])[index] is not None and rng.random() < 0.4]
            straight = Book(FREE)
            straight.begin_log((0,))
            try:
                for item in items:
                    straight.add(0, item)
                for finding in findings:
                    straight.note(0, *finding)
            except Impossible:
                continue
            other = Book(FREE)
            other.begin_log((0,))
            ends = list(items)
            for number, item in enumerate(ends):
                with other.trial():
                    other.add(0, 1)
                    other.undo()
                if rng.random() < 0.5:
                    other.add(0, 9)
                    other.undo()
                if isinstance(item, tuple) and rng.random() < 0.6:
                    other.add(0, 1)
                    other.fill(0, 0, number, ((None, None, None),))
                    other.mend(0, 0, number, item)
                else:
                    other.add(0, item)
                for finding in findings:
                    if finding[2] == number + 1 or finding[2] == 0 and number + 1 == len(items):
                        other.note(0, *finding)
            self.same(sorted(map(repr, self.tells(other)[2])), sorted(map(repr, self.tells(straight)[2])))
            for question in self.questions:
                self.same(other.ask(0, 0, question)[0], straight.ask(0, 0, question)[0])
            self.same(other.until(0, ASKED)[:2] if other.until(0, ASKED)[0] == 'held' else 0,
                      straight.until(0, ASKED)[:2] if straight.until(0, ASKED)[0] == 'held' else 0)

    def test_a_maker_that_comes_late(self):
        for late in (True, False):
            book = Book(maker(TINY))
            if not late:
                book.revise(2, 4, ('  log 1 go', '  a: ask x'))
            book.begin_log()
            book.add(0, GO)
            if late:
                book.revise(2, 4, ('  log 1 go', '  a: ask x'))
            book.add(0, HOT)
            found = [book.makers_of(0, 0), book.ask(0, 0, ASKED), book.ask(0, 0, ('ended', 'done'))[0]]
            if late:
                first = found
        self.same(found, first)


if __name__ == '__main__':
    unittest.main()
