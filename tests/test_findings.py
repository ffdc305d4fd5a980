import random
import unittest

from loggedruns.books import Book
from loggedruns.errors import BadQuestion, Impossible, LogError, NoGrounds, NoLog, NoSeat, TooMany, Unknown
from loggedruns.findings import shows_asked, shows_reasons, shows_until
from loggedruns.lateness import late
from tests import brute, generate, plainlate
from tests.bookcase import ASKED, GO, HOT, PLAIN, BookCase
from tests.common import ODD, TINY, do, maker, near
from tests.plainbook import PlainLog, PlainMakers, PlainTable, log_in, shows_tables
from tests.test_lateness import EVER, QUIET


def few(rng, book, most=25):
    """A log of a book with few members, with findings; None if it has more."""
    made = book.makers[0]
    for _ in range(rng.randint(1, 4)):
        name, words = rng.choice([('add', (0, rng.choice([None, 1, (None, 'u', None)]))), ('note', (0, 0, 0, rng.randint(0, 2), generate.fact(
            rng, made.program), rng.random() < 0.5)), ('finish', (0, rng.choice(['over', None])))])
        try:
            getattr(book, name)(*words)
        except LogError:
            pass


class TestShowsAsked(BookCase):
    def setUp(self):
        self.book0 = self.book(maker(TINY), (None,), GO, end='open')
        self.book0.revise(3, 4, ('  log 1 go', '  set x 0'))
        self.book0.note(0, 0, 0, 1, ('is', 'x', 1), False)

    def shows(self, value, question=ASKED):
        return self.unchanged(shows_asked, self.book0, 0, 0, question, value)

    def test_parameters(self):
        self.assertIs(shows_asked(book=self.book0, log=0, seat=0, question=ASKED, value=self.book0.ask(0, 0, ASKED)), True)

    def test_sometimes(self):
        word, with_it, without = self.book0.ask(0, 0, ASKED)
        self.same(word, 'sometimes')
        numbers, weaving = with_it
        self.assertIs(self.shows((word, with_it, without)), True)
        for value in ((word, without, with_it), (word, with_it), (word, with_it, with_it), (word, with_it, without, ()), [word, with_it, without],
                      ('always', with_it, without), (word, weaving, without), (word, ((2,), weaving), without), (word, ((0,), weaving), without)
                      if numbers != (0,) else (word, ((1,), weaving), without), (word, ((True,), weaving), without), (word, ((numbers,), weaving), without),
                      (word, ((), weaving), without), (word, (list(numbers), weaving), without), (word, (numbers, weaving, ()), without),
                      (word, (numbers, (weaving[0], (1,))), without), (word, (numbers, (weaving[0], ())), without)):
            self.assertIs(self.shows(value), False, value)
        for odd in [value for value in ODD if value != (0,)]:
            for value in (odd, (word, odd, without), (word, with_it, odd), (odd, with_it, without), (word, (numbers, odd), without),
                          (word, (odd, weaving), without), (word, (numbers, (odd, weaving[1])), without), (word, (numbers, (weaving[0], odd)), without)):
                self.assertIs(self.shows(value), False)

    def test_sometimes_by_hand(self):
        """Two runs of either maker: TINY asks 1 and writes go; the other one sets x to 0 behind that, as was seen."""
        def weaving(*steps):
            return ((steps,), (0,))

        ones = {True: ((1,), weaving(do(0, 1), do(0), do(0))), False: ((0,), weaving(do(0, 0), do(0)))}
        self.assertIs(self.shows(('sometimes', ones[True], ones[False])), True)
        # The finding is that behind the entry x was not 1 at some moment.
        for wrong in (((0,), weaving(do(0, 1), do(0))), ((1,), weaving(do(0, 1), do(0))), ((1,), weaving(do(0, 1))),
                      ((0,), ones[True][1]), ((1,), weaving(do(0, 1), do(0), do(0), do(0), do(0)))):
            self.assertIs(self.shows(('sometimes', wrong, ones[False])), False, wrong)
        self.assertIs(self.shows(('sometimes', ((1,), weaving(do(0, 1), do(0), do(0), do(0))), ones[False])), True)

    def test_tables_otherwise(self):
        question = ('did', 'c', 1)
        word, tables = self.book0.ask(0, 0, question)
        self.same((word, [numbers for numbers, _ in tables]), ('never', [(0,), (1,)]))
        self.assertIs(self.shows((word, tables), question), True)
        (one, first), (other, second) = tables
        for wrong in (tables[:1], tables[1:], tables[::-1], (*tables, tables[1]), list(tables), (), ((other, first), (one, second)),
                      ((one, second), (other, first)), ((one, first, ()), (other, second)), (first, second), (((False,), first), (other, second)),
                      ((one, first), ((True,), second)), ((one, list(first)), (other, second)), ((0, first), (1, second))):
            self.assertIs(self.shows((word, wrong), question), False)
        for k in range(len(first)):
            self.assertIs(self.shows((word, ((one, first[:k] + first[k + 1:]), (other, second))), question), False)
            self.assertIs(self.shows((word, ((one, (*first[:k], first[k], *first[k:])), (other, second))), question), False)
        self.assertIs(self.shows(('always', tables), question), False)
        self.assertIs(self.shows(('none', tables), question), False)
        for value in ODD:
            for wrong in (value, (word, value), (value, tables), (word, (value, *tables[1:])), (word, ((one, value), tables[1])), (word, tables, value)):
                self.assertIs(self.shows(wrong, question), False)

    def test_none(self):
        """No maker has all these questions: then each table is right."""
        book = Book(maker(TINY))
        book.revise(0, 7, tuple(PLAIN.program.text.split('\n')))
        book.begin_log()
        book.note(0, 0, 0, 0, ('did', 'd', 1), False)
        self.same(book.ask(0, 0, ASKED), ('none', ()))
        for word in ('none', 'always', 'never'):
            self.assertIs(shows_asked(book, 0, 0, ASKED, (word, ())), True)
            self.assertIs(shows_asked(book, 0, 0, ASKED, (word, (((0,), ()),))), False)
        self.assertIs(shows_asked(book, 0, 0, ASKED, ('some', ())), False)
        # The maker that has it cannot have written the log: all three are right.
        book.add(0, ('k', 'u', ()))
        book.drop(0)
        told = book.ask(0, 0, ASKED)
        self.same((told[0], [numbers for numbers, _ in told[1]]), ('none', [(0,)]))
        for word in ('none', 'always', 'never'):
            self.assertIs(shows_asked(book, 0, 0, ASKED, (word, told[1])), True)
        self.assertIs(shows_asked(book, 0, 0, ASKED, ('none', ())), False)

    def test_marks(self):
        """With a mark left out, or set too soon, the table is none."""
        book = self.book(None, (0,), GO, end='over')
        book.note(0, 0, 0, 1, ('did', 'c', 1), False)
        word, ((numbers, table),) = book.ask(0, 0, ASKED)
        self.same((word, sorted({marks for _, _, _, marks in table})), ('never', [(False,), (True,)]))
        for k, (stands, spot, memory, marks) in enumerate(table):
            changed = tuple(sorted([*table[:k], (stands, spot, memory, (not marks[0],)), *table[k + 1:]]))
            value = (word, ((numbers, changed),))
            good = PlainTable(book.makers, log_in(book, 0), numbers, 0, ASKED).shows(word, changed)
            self.assertIs(shows_asked(book, 0, 0, ASKED, value), good)
        # Members that no weaving comes to are let: the mark False where it would be True.
        more = [(stands, spot, memory, (False,)) for stands, spot, memory, marks in table if marks == (True,)]
        changed = tuple(sorted({*table, *more}))
        self.assertIs(shows_asked(book, 0, 0, ASKED, (word, ((numbers, changed),))),
                      PlainTable(book.makers, log_in(book, 0), numbers, 0, ASKED).shows(word, changed))

    def test_doubled_facts(self):
        """In findings, and in the question, a fact that stands twice has two integers."""
        made, twice = maker('cell x 1\nhand h\n  a: ask x'), ('or', ('fell', 1), ('fell', 1))
        book = self.book(made, (0,))
        book.note(0, 0, 0, 0, twice, False)
        word, ((numbers, table),) = book.ask(0, 0, twice)
        done = (((),), (1,), (), ((),), 0, 0, False)
        for memory, marks, good in ((((0, 0), (0, 0)), (True,), True), (((0, 0), (1, 0)), (True,), False), (((0, 0), (0, 1)), (True,), False),
                                    (((1, 0), (0, 0)), (False,), True), (((1, 0), (1, 0)), (False,), True), (((1, 0), (1, 1)), (True,), False)):
            value = tuple(sorted({*table, ((done,), ((0, 0),), memory, marks)}))
            self.assertIs(PlainTable(book.makers, log_in(book, 0), numbers, 0, twice).shows(word, value), good)
            self.assertIs(shows_asked(book, 0, 0, twice, (word, ((numbers, value),))), good)

    def test_random(self):
        rng = random.Random(101)
        found = {True: 0, False: 0}
        for _ in range(60):
            made = generate.talker(rng)
            if brute.all_runs(made, 30) is None:
                continue
            book = Book(made)
            if rng.random() < 0.3:
                book.revise(0, 0, ())
            book.begin_log(rng.choice([(0,), (None,), (0, 0)]))
            few(rng, book)
            question = generate.fact(rng, made.program)
            try:
                told = book.ask(0, 0, question)
            except TooMany:
                continue
            if told[0] == 'sometimes' or sum(len(table) for _, table in told[1]) > 80:
                continue
            log, choices = log_in(book, 0), [numbers for numbers, _ in told[1]]
            for numbers, table in told[1]:
                self.same(table, PlainTable(book.makers, log, numbers, 0, question).least())
            values = [(word, told[1]) for word in ('always', 'never', 'none')] + near(told, rng, 80)
            for value in values:
                good = isinstance(value, tuple) and len(value) == 2 and isinstance(value[0], str) and shows_tables(
                    book.makers, log, choices, 0, question, value[0], value[1])
                self.assertIs(shows_asked(book, 0, 0, question, value), good)
                found[good] += 1
        self.assertGreater(min(found.values()), 30, found)

    def test_errors(self):
        book = self.book0
        for deed, more in ((shows_asked, {}), (shows_reasons, {})):
            good = {'book': book, 'log': 0, 'seat': 0, 'question': ASKED, 'value': ('none', ())}
            self.told_in_sequence(deed, good, [('log', 1, NoLog), ('seat', 1, NoSeat), ('question', 0, BadQuestion)])
            for name, values, error in (('log', (1, *[value for value in ODD if type(value) is bool or value != 0]), NoLog),
                                        ('seat', (1, *[value for value in ODD if type(value) is bool or value != 0]), NoSeat),
                                        ('question', (*ODD, ('did', 'z', 1)), BadQuestion)):
                for value in values:
                    self.told(error, value, deed, **{**good, **more, name: value})

    def test_beyond_the_limit(self):
        """Looks never raise TooMany."""
        book = Book(maker('cell x 3\ncell y 3\nhand h\n  a: ask x\n  ask y' + '\n  ask x' * 2))
        book.begin_log((None, None))
        book.revise(6, 6, ('  ask x',))
        book.revise(6, 6, ('  ask x',))
        self.told(TooMany, 4000, book.ask, 0, 0, ASKED)
        weaving = (((do(0, 1),), ()), ())
        self.assertIs(shows_asked(book, 0, 0, ASKED, ('sometimes', ((1, 2), weaving), ((2, 2), (((), ()), ())))), True)
        self.assertIs(shows_asked(book, 0, 1, ASKED, ('sometimes', ((1, 2), weaving), ((2, 2), (((), ()), ())))), False)
        self.assertIs(shows_asked(book, 0, 0, ASKED, ('always', ())), False)
        self.assertIs(shows_reasons(book, 0, 0, ASKED, ((), (), 'always', ())), False)


class TestReasons(BookCase):
    def reasons(self, book, question=ASKED, seat=0):
        told = left, numbers, word, tables = self.unchanged(book.reasons, log=0, seat=seat, question=question)
        self.assertIs(shows_reasons(book=book, log=0, seat=seat, question=question, value=told), True)
        return left, numbers, word

    def test_sequence(self):
        """Items first, then findings from the least number on, the end last."""
        book = self.book(None, (0,), GO, HOT)
        book.note(0, 0, 0, 2, ('did', 'b', 1), True)
        self.same(self.reasons(book), ((), (0,), 'always'))
        book.note(0, 0, 0, 0, ASKED, True)
        self.same(self.reasons(book), ((), (1,), 'always'))
        book.drop(1)
        book.drop(0)
        self.same(self.reasons(book), (((0, 1),), (), 'always'))
        book.undo()
        book.finish(0, 'over')
        self.same(self.reasons(book), ((), (0,), 'always'))
        book = self.book(None, (0,), GO, end='over')
        self.same(self.reasons(book), (((0, 0), (1, 0)), (), 'never'))
        book.note(0, 0, 0, 1, ('did', 'c', 1), True)
        # The finding is tried ahead of the end.
        self.same(self.reasons(book), (((0, 0), (1, 0)), (), 'never'))
        book.finish(0, None)
        self.same(self.reasons(book), (((0, 0),), (0,), 'never'))
        self.same(self.reasons(book, ('did', 'c', 1)), ((), (0,), 'always'))
        book = self.book(None, (0,), GO)
        book.note(0, 0, 0, 1, ('ended', 'done'), True)
        book.finish(0, 'over')
        self.same(self.reasons(book, ('ended', 'done')), (((1, 0),), (), 'always'))

    def test_a_finding_that_bars_makers(self):
        book = Book(maker(TINY))
        book.revise(2, 3, ('  a: set x 0',))
        book.begin_log()
        book.add(0, GO)
        self.same(book.ask(0, 0, ('did', 'a', 1))[0], 'always')
        # ASKED is a question of maker 0 alone; with the finding maker 1 does not suit.
        book.note(0, 0, 0, 1, ASKED, True)
        self.same(book.ask(0, 0, ('was', 'x', 1))[0], 'always')
        self.same(self.reasons(book, ('was', 'x', 1)), ((), (0,), 'always'))
        left, numbers, word, tables = book.reasons(0, 0, ('was', 'x', 1))
        self.same([choice for choice, _ in tables], [(0,)])
        left, numbers, word, tables = book.reasons(0, 0, ('did', 'a', 1))
        self.same((left, numbers, [choice for choice, _ in tables]), ((), (0,), [(0,)]))
        book.undo()
        left, numbers, word, tables = book.reasons(0, 0, ('did', 'a', 1))
        self.same((left, numbers, [choice for choice, _ in tables]), (((0, 0),), (), [(0,), (1,)]))

    def test_no_grounds(self):
        book = self.book(None, (0,), GO)
        self.told(NoGrounds, 'sometimes', book.reasons, 0, 0, ASKED)
        self.told(BadQuestion, 0, book.reasons, 0, 0, 0)
        self.told(NoSeat, 1, book.reasons, 0, 1, 0)
        self.assertIs(shows_reasons(book, 0, 0, ASKED, ((), (), 'sometimes', ())), False)
        book.revise(0, 7, tuple(PLAIN.program.text.split('\n')))
        book.begin_log()
        book.note(1, 0, 0, 0, ('did', 'd', 1), False)
        self.told(NoGrounds, 'none', book.reasons, 1, 0, ASKED)
        # No weaving is left by it: each word is right of what is left, with tables for it.
        self.assertIs(shows_reasons(book, 1, 0, ASKED, ((), (0,), 'always', ())), True)
        self.assertIs(shows_reasons(book, 1, 0, ASKED, ((), (0,), 'never', ())), True)
        self.assertIs(shows_reasons(book, 1, 0, ASKED, ((), (0,), 'none', ())), False)
        self.assertIs(shows_reasons(book, 1, 0, ASKED, ((), (), 'always', ())), False)
        self.assertIs(shows_reasons(book, 0, 0, ASKED, None), False)

    def test_shows(self):
        book = self.book(None, (0,), GO, None, HOT, end='over')
        one, other = book.note(0, 0, 0, 2, ('did', 'a', 1), True), book.note(0, 0, 0, 3, ('did', 'b', 1), True)
        self.same((one, other), (0, 1))
        log = log_in(book, 0)
        places, every = [(0, 0), (0, 2), (1, 0)], [0, 1]

        def enough(left, numbers):
            sheet = (tuple(item if (0, k) in left else None for k, item in enumerate(log.sheet[0])),)
            part = PlainLog(log.seats, sheet, 'over' if (1, 0) in left else None, tuple(f for f in log.findings if f[0] in numbers))
            table = PlainTable(book.makers, part, (0,), 0, ASKED)
            return table.shows('always', table.least()), table.least()

        found = {True: 0, False: 0}
        for mask in range(8):
            for more in range(4):
                left = tuple(place for k, place in enumerate(places) if mask >> k & 1)
                numbers = tuple(number for number in every if more >> number & 1)
                good, table = enough(left, numbers)
                value = (left, numbers, 'always', (((0,), table),))
                self.assertIs(shows_reasons(book, 0, 0, ASKED, value), good)
                self.assertIs(shows_reasons(book, 0, 0, ASKED, (left, numbers, 'never', (((0,), table),))), False)
                found[good] += 1
                if good and left and numbers:
                    word, tables = value[2:]
                    for wrong in ((left[::-1] if len(left) > 1 else list(left), numbers, word, tables), (left, list(numbers), word, tables),
                                  ((*left, left[-1]), numbers, word, tables), (left, (*numbers, numbers[-1]), word, tables),
                                  ((*left, (1, 1)), numbers, word, tables), ((*left, (2, 0)), numbers, word, tables), (((0, 1), *left), numbers, word, tables),
                                  (left, (*numbers, 2), word, tables), (left, (-1, *numbers), word, tables), (left, (True,), word, tables),
                                  (((False, 0), *left[1:]), numbers, word, tables), (left, numbers, 'none', tables), (left, numbers, word, ()),
                                  (left, numbers, word, tables, ()), (left, numbers, word), [left, numbers, word, tables],
                                  (left, numbers, word, (((1,), table),)), (left, numbers, word, (((0,), table[1:]),)), (left, numbers, word, tables * 2)):
                        self.assertIs(shows_reasons(book, 0, 0, ASKED, wrong), False, wrong[:3])
                    for odd in ODD:
                        for k in range(4):
                            wrong = tuple(odd if k == at else part for at, part in enumerate((left, numbers, word, tables)))
                            if k > 1 or odd not in ((), (0,)):
                                self.assertIs(shows_reasons(book, 0, 0, ASKED, wrong), False)
        self.assertGreater(min(found.values()), 5)

    def test_limit_of_what_is_left(self):
        """The limit counts for the log as it is alone: what is left may have more members."""
        made = maker('cell x 3\ncell y 3\ncell z 3\nhand h\n  a: ask x\n  log 1 u\n  ask y\n  log 1 v\n  ask z\n  log 1 w\n  ask x\n  log 1 u\n  ask y')
        book = self.book(made, (0,), *[('h', word, ()) for word in 'uvwu'], *[0] * 0)
        for _ in range(8):
            book.add(0, None)
        self.same(book.ask(0, 0, ('did', 'a', 2))[0], 'never')
        left, numbers, word, tables = book.reasons(0, 0, ('did', 'a', 2))
        self.same((left, numbers, word), ((), (), 'never'))
        self.assertGreater(len(tables[0][1]), 4000)
        self.assertIs(shows_reasons(book, 0, 0, ('did', 'a', 2), (left, numbers, word, tables)), True)


class TestUntil(BookCase):
    def until(self, book, question=ASKED):
        told = self.unchanged(book.until, log=0, question=question)
        self.assertIs(shows_until(book=book, log=0, question=question, value=told), True)
        return told

    def test_as_late(self):
        """Without findings and an end it is as late with the sheet."""
        for text in (TINY, EVER, QUIET):
            made = maker(text)
            for items in ((), (None,), (GO,), (1,), (None, 1), (('h', 'u', ()),)):
                book = Book(made)
                book.begin_log((0,))
                try:
                    for item in items:
                        book.add(0, item)
                except Impossible:
                    continue
                told, other = self.until(book), late(made, ASKED, sheet=(items,))
                self.same(told[0], other[0])
                if told[0] == 'held':
                    self.same(told[:3], other[:3])

    def test_end_and_findings(self):
        book = self.book(None, (0,), GO)
        self.same(self.until(book)[:2], ('held', 1))
        book.finish(0, 'over')
        self.same(self.until(book)[:2], ('held', 0))
        book.finish(0, None)
        book.note(0, 0, 0, 0, ASKED, True)
        self.same(self.until(book)[:2], ('held', 0))
        book.undo()
        book.note(0, 0, 0, 0, ASKED, False)
        self.same(self.until(book)[:2], ('held', 1))
        book.note(0, 0, 0, 1, ('asked', 'a', 0), True)
        told = self.until(book)
        self.same((told[:2], {node[1] for *node, _, _, _ in told[2]}), (('held', 0), {(0,)}))

    def test_unknown(self):
        book = Book(maker(TINY))
        for number, seats in enumerate(((None,), (0, 0), (None, None), (0, None), (0,))):
            book.begin_log(seats)
            if seats != (0,):
                for question in (ASKED, 0, ('not', ASKED)):
                    self.told(Unknown, number, book.until, number, question)
                    self.told(Unknown, number, shows_until, book, number, question, None)
        for question in (*ODD, ('not', ASKED), ('is', 'x', 1), ('did', 'z', 1)):
            self.told(BadQuestion, question, book.until, 4, question)
            self.told(BadQuestion, question, shows_until, book, 4, question, None)
        self.told(NoLog, 5, book.until, 5, 0)
        self.told(NoLog, 5, shows_until, book, 5, 0, None)

    def test_a_later_maker(self):
        book = Book(maker(TINY))
        book.revise(4, 6, ())
        book.begin_log((1,))
        self.same(self.until(book)[0], 'silent')
        book.begin_log((0,))
        self.same(book.until(1, ASKED)[:2], ('held', 2))

    def test_shows(self):
        book = self.book(None, (0,), GO)
        book.note(0, 0, 0, 0, ('fell', 1), False)
        word, most, table, pair = self.until(book)
        self.same((word, most), ('held', 1))
        for value, good in (((word, most, table, None), True), ((word, most, table, pair[::-1]), False), ((word, 0, table, None), False),
                            ((word, most, table[1:], None), False), ((word, most, table[::-1], pair), False), ((word, 2, table, pair), False),
                            ((word, most, table), False), ([word, most, table, pair], False), (('silent', most, table, pair), False)):
            self.assertIs(shows_until(book, 0, ASKED, value), good, value[:2])
        one, other = pair
        for wrong in ((one[1], other), (one, other[1]), ((), other), (one,), (one, other, one), ((one, one), other)):
            self.assertIs(shows_until(book, 0, ASKED, (word, most, table, wrong)), False)
        for odd in ODD:
            for k in range(4):
                value = tuple(odd if k == at else part for at, part in enumerate((word, most, table, pair)))
                self.assertIs(shows_until(book, 0, ASKED, value), (k == 3 and odd is None) or (k == 1 and odd is not True and odd == 1))
            self.assertIs(shows_until(book, 0, ASKED, odd), False)
        # The runs ahead must suit: of the finding, too.
        book.note(0, 0, 0, 1, ('did', 'b', 1), False)
        self.assertIs(shows_until(book, 0, ASKED, book.until(0, ASKED)), True)
        silent = maker('cell x 1\nhand h\n  a: ask x\n  log 1 go')
        book = self.book(silent, (0,), GO)
        ones = [((do(0, value), do(0)), ()) for value in (1, 0)]
        self.assertIs(shows_until(book, 0, ASKED, ('silent', ones[0], 0, ones[1])), True)
        self.assertIs(shows_until(book, 0, ASKED, ('silent', ones[1], 0, ones[0])), False)
        self.assertIs(shows_until(book, 0, ASKED, ('silent', ones[0][0], 0, ones[1])), False)
        book.note(0, 0, 0, 0, ASKED, True)
        self.assertIs(shows_until(book, 0, ASKED, ('silent', ones[0], 0, ones[1])), False)
        self.same(self.until(book)[:2], ('held', 0))

    def test_random(self):
        """Beside the runs that suit, all of which are known."""
        rng = random.Random(103)
        found = {}
        while sum(found.values()) < 90:
            made = generate.talker(rng)
            runs = brute.all_runs(made, 40)
            if runs is None:
                continue
            book, plainly = Book(made), PlainMakers([made], [runs])
            book.begin_log((0,))
            few(rng, book)
            question = generate.fact(rng, made.program, generate.LASTING)
            begins = {parts[0][0] for _, _, parts in plainly.weavings(log_in(book, 0))}
            told = self.until(book, question)
            self.same(told[:2] if told[0] == 'held' else told[:1], plainlate.lateness(made, question, runs, begins))
            for pair in ([told[3]] if told[0] == 'held' and told[3] else [(told[1], told[3])] if told[0] == 'silent' else []):
                self.assertTrue(all(ahead in begins for ahead, _ in pair))
            if told[0] == 'held':
                nodes = plainlate.Nodes(made, question)
                starts = sorted({nodes.trail(run)[0][-1] for run in begins})
                self.assertTrue(nodes.is_late_table(told[1], told[2], starts))
                for value in near(told[2], rng, 20):
                    good = self.is_table(nodes, told[1], value, starts)
                    self.assertIs(shows_until(book, 0, question, ('held', told[1], value, None)), good)
            word = told[:2] if told[0] == 'held' else told[0]
            found[word] = found.get(word, 0) + 1
        self.assertGreater(len(found), 2, found)

    def is_table(self, nodes, most, value, starts):
        """Whether any value is a late table of members by their forms."""
        good = PlainTable([nodes.made], PlainLog((0,), ((),), None, ()), (0,), 0, nodes.question)
        if not isinstance(value, tuple) or not all(isinstance(member, tuple) and len(member) == 5 and type(member[4]) is int for member in value):
            return False
        for one, memory, other, more, _ in value:
            if not good.has_form(((one,), ((0, 0),), (memory,), ())) or not good.has_form(((other,), ((0, 0),), (more,), ())):
                return False
        return nodes.is_late_table(most, value, starts)


if __name__ == '__main__':
    unittest.main()
