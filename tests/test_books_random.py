"""Random books, beside a plain enumeration of weavings, and beside drawn runs."""

import random
import unittest

from loggedruns.books import Book
from loggedruns.entries import entries
from loggedruns.errors import BadQuestion, Impossible, LogError, NoGrounds, TooMany
from loggedruns.findings import shows_asked, shows_reasons
from loggedruns.journals import course, read_journal
from loggedruns.makers import Recorder
from loggedruns.questions import is_question, judge
from loggedruns.stands import after, first_stand, state, steps
from tests import brute, generate, plain, plaincrowd
from tests.bookcase import BookCase, shown
from tests.common import maker
from tests.plainbook import PlainLog, PlainMakers, log_in

MOST = 14


def is_small(runs):
    return runs is not None and max(len(plaincrowd.got(run[2])) for run in runs) < 3


def small(rng, names):
    """A maker with few runs, and these."""
    while True:
        made = generate.talker(rng) if rng.random() < 0.6 else generate.labelled(rng, generate.made(rng))
        made = maker(made.program.text, level=made.recorder.level, every=made.recorder.every, names=names)
        runs = brute.all_runs(made, MOST)
        if is_small(runs):
            return made, runs


def revised(rng, book, plainly):
    """The book with a further maker, one row being another, perhaps with another label or none; and its runs."""
    lines = book.makers[-1].program.text.split('\n')
    for _ in range(60):
        at = rng.randrange(len(lines))
        line = lines[at]
        changes = [('log 1', 'log 2'), ('ask x', 'set x 1'), (' u', ' v'), ('a: ', 'z: '), ('a: ', 'z: '), ('b: ', ''), ('ask x', 'ask y')]
        line = line.replace(*rng.choice(changes)) if line.startswith(' ') else line
        old = book.makers[-1].recorder
        recorder = rng.choice([None, None, Recorder(level=old.level, every=rng.choice([0, 2]), names=old.names)])
        try:
            book.revise(at, at + 1, (line,), recorder=recorder)
        except LogError:
            continue
        runs = brute.all_runs(book.makers[-1], MOST)
        if is_small(runs):
            return PlainMakers(list(book.makers), [*plainly.runs, runs])
        book.undo()
    return plainly


class TestBesideWeavings(BookCase):
    def setUp(self):
        self.found = {}

    def count(self, word):
        self.found[word] = self.found.get(word, 0) + 1

    def random_item(self, rng, book):
        every = [entry for made in book.makers for entry in entries(made)] or [('h', 'u', ())]
        return rng.choice([None, 1, 2, generate.item(rng, rng.choice(every)), generate.item(rng, rng.choice(every))])

    def deed(self, rng, book, plainly):
        """A deed, with what the log would be behind it."""
        log = log_in(book, 0)
        sheet, findings, kind = log.sheet, log.findings, rng.choice(['add', 'add', 'add', 'note', 'note', 'finish', 'beside', 'fill', 'mend', 'tie'])
        copy = rng.randrange(len(sheet))
        index = rng.randint(0, len(sheet[copy]))
        items = tuple(self.random_item(rng, book) for _ in range(rng.randint(0, 2)))
        item = self.random_item(rng, book)

        def with_copy(new):
            return tuple(new if k == copy else one for k, one in enumerate(sheet))

        def moved(more):
            return tuple([(*finding[:3], finding[3] + more, *finding[4:]) if finding[2] == copy and finding[3] > index else finding
                          for finding in findings])

        if kind == 'add':
            second = () if len(sheet) == 1 or rng.random() < 0.4 else (self.random_item(rng, book),)
            more = (item, second[0] if second else item)
            return ('add', (0, item), {'second': second}), PlainLog(log.seats, tuple((*one, new) for one, new in zip(sheet, more)), log.end, findings)
        if kind == 'beside':
            return ('beside', (0, items), {}), PlainLog(log.seats, (*sheet, items), log.end, findings)
        if kind == 'finish':
            end = rng.choice([None, 'over', 'open'])
            return ('finish', (0, end), {}), PlainLog(log.seats, sheet, end, findings)
        if kind == 'note':
            seat, truth = rng.randrange(len(log.seats)), rng.random() < 0.5
            question = generate.question(rng, rng.choice(book.makers).program, deep=1)
            number = max([finding[0] for finding in findings], default=-1) + 1 if 1 not in book.logs else None
            return ('note', (0, seat, copy, index, question, truth), {}), PlainLog(log.seats, sheet, log.end, (
                *findings, (number, seat, copy, index, question, truth)))
        if kind == 'fill':
            return ('fill', (0, copy, index, items), {}), PlainLog(log.seats, with_copy(sheet[copy][:index] + items + sheet[copy][index + 1:]),
                                                                   log.end, moved(len(items) - 1))
        if kind == 'mend':
            return ('mend', (0, copy, index, item), {}), PlainLog(log.seats, with_copy(sheet[copy][:index] + (item,) + sheet[copy][index + 1:]),
                                                                  log.end, findings)
        return self.tie(rng, book, log, items)

    def tie(self, rng, book, log, items):
        """Another log, which begins with a gap None, is tied to the first one."""
        rest = [(None, self.random_item(rng, book)) if rng.random() < 0.7 else (None,) for _ in log.sheet]

        def deed(same):
            number = same.begin_log(log.seats)
            for at in range(len(rest[0])):
                same.add(number, rest[0][at])
            if len(rest) == 2:
                same.beside(number, rest[1])
            same.tie(0, number, items)

        return ('tried', (deed,), {'hold': True}), PlainLog(log.seats, tuple((*one, *items, *more) for one, more in zip(log.sheet, rest)), None, log.findings)

    def test_deeds(self):
        rng = random.Random(91)
        for number in range(170):
            made, runs = small(rng, rng.random() < 0.5)
            book, plainly = Book(made), PlainMakers([made], [runs])
            if number % 2:
                plainly = revised(rng, book, plainly)
            every = len(book.makers)
            book.begin_log(rng.choice([(0,), (None,), (None,), (0, 0), (every - 1, 0), (None, None)]))
            for _ in range(rng.randint(2, 7)):
                self.one_deed(rng, book, plainly)
            self.asked(rng, book, plainly)
            self.same(shown(read_journal(book.journal)), shown(book))
        for word in ('always', 'never', 'sometimes', ('note', 'Impossible'), ('add', 'Impossible'), ('tried', 'done'), ('fill', 'done')):
            self.assertGreater(self.found.get(word, 0), 2, self.found)

    def one_deed(self, rng, book, plainly):
        (name, words, more), log = self.deed(rng, book, plainly)
        ahead = shown(book)
        try:
            getattr(book, name)(*words, **more)
        except Impossible as error:
            self.assertFalse(plainly.is_possible(log) and name != 'tried')
            if name != 'tried':
                self.same(error.value, plainly.contradiction(self.numbered(book, log)))
            self.count((name, 'Impossible'))
        except LogError as error:
            self.count((name, type(error).__name__))
        else:
            now = log_in(book, 0)
            self.same((now.seats, now.sheet, now.end), (log.seats, log.sheet, log.end))
            self.same([finding[1:] for finding in now.findings], [finding[1:] for finding in log.findings])
            self.assertTrue(plainly.is_possible(now))
            self.count((name, 'done'))
            return
        self.same(shown(book), ahead)

    def numbered(self, book, log):
        """The log with the number that a further finding would get."""
        if log.findings and log.findings[-1][0] in [None, *[finding[0] for finding in log.findings[:-1]]] or \
                len(log.findings) > len(book.findings_of(0)):
            return PlainLog(log.seats, log.sheet, log.end, (*log.findings[:-1], (book.shelf.next_finding, *log.findings[-1][1:])))
        return log

    def asked(self, rng, book, plainly):
        log = log_in(book, 0)
        for seat in range(len(log.seats)):
            self.same(book.makers_of(0, seat), plainly.makers_of(log, seat))
            for _ in range(3):
                question = generate.question(rng, rng.choice(book.makers).program, deep=1)
                able = [number for number in range(len(book.makers)) if log.seats[seat] in (None, number)
                        and is_question(book.makers[number].program, question)]
                if not able:
                    self.told(BadQuestion, question, book.ask, 0, seat, question)
                    self.told(BadQuestion, question, book.reasons, 0, seat, question)
                    self.count('BadQuestion')
                    continue
                self.one_question(book, plainly, log, seat, question)
        for copy, items in enumerate(log.sheet):
            for index, item in enumerate(items):
                if isinstance(item, tuple):
                    self.same(book.writers(0, copy, index), plainly.writers(log, copy, index))

    def one_question(self, book, plainly, log, seat, question):
        told = book.ask(0, seat, question)
        word = plainly.word(log, seat, question)
        self.same(told[0], word)
        self.count(word)
        self.assertIs(shows_asked(book, 0, seat, question, told), True)
        if word != 'sometimes':
            self.same([numbers for numbers, _ in told[1]], plainly.choices(log, [(seat, question)]))
            for other in ('always', 'never', 'none'):
                self.assertIs(shows_asked(book, 0, seat, question, (other, told[1])), word in (other, 'none'))
        else:
            for (numbers, (runs, order)), truth in zip(told[1:], (True, False)):
                parts = [[part for part in plainly.runs[number] if part[0] == run][0] for number, run in zip(numbers, runs)]
                self.assertTrue(plainly.suits(log, numbers, parts, order))
                self.assertIs(judge(book.makers[numbers[seat]], question, runs[seat]), truth)
        if word in ('always', 'never'):
            left, numbers, same, tables = book.reasons(0, seat, question)
            self.same(same, word)
            self.assertIs(shows_reasons(book, 0, seat, question, (left, numbers, same, tables)), True)
            self.same((left, numbers), plainly.least_left(log, seat, question, word))
        else:
            self.told(NoGrounds, word, book.reasons, 0, seat, question)


class Drawn:
    """A weaving, drawn at random: its runs, the order of its steps, and what the log got by each of them."""

    def __init__(self, rng, crowd, most=14):
        stands = [first_stand(made) for made in crowd]
        self.crowd, self.runs, self.sequence = crowd, [[] for _ in crowd], []
        for _ in range(rng.randint(3, most)):
            able = [seat for seat in range(len(crowd)) if steps(crowd[seat], stands[seat])]
            if not able or len(self.log()) == 7:
                break
            seat = rng.choice(able)
            step = rng.choice(steps(crowd[seat], stands[seat]))
            stands[seat], entry = after(crowd[seat], stands[seat], step)
            self.runs[seat].append(step)
            self.sequence.append((seat, entry))
        self.end = 'over' if all(state(made, stand) != 'open' for made, stand in zip(crowd, stands)) else 'open'

    def log(self):
        return [entry for _, entry in self.sequence if entry is not None]

    def so_far(self, seat, moment):
        """The run of a seat behind so many steps of all."""
        return tuple(self.runs[seat][:len([1 for other, _ in self.sequence[:moment] if other == seat])])

    def moments(self, count):
        """Numbers of steps behind which the log has so many entries."""
        return [moment for moment in range(len(self.sequence) + 1)
                if len([1 for _, entry in self.sequence[:moment] if entry is not None]) == count]


class TestBesideDrawnRuns(BookCase):
    """Whatever is told of a weaving that there was is not refused, and what is told of all is so of it."""

    def torn(self, rng, entry):
        hand, word, values = entry
        return (rng.choice([hand, None]), rng.choice([word, word, None]),
                rng.choice([values, values, None, tuple(rng.choice([worth, None]) for worth in values)]))

    def cover(self, rng, log, first, many):
        """Items for so many entries of a log, each with the number of entries that it stands for."""
        found = []
        while many or rng.random() < 0.1:
            count = rng.randint(0, many)
            if count == 0 or rng.random() < 0.15:
                found.append((None, count))
            elif count == 1 and rng.random() < 0.8:
                found.append((self.torn(rng, log[first]), 1))
            else:
                found.append((count, count))
            first, many = first + count, many - count
        return found

    def finer(self, rng, log, first, item, count):
        """Items in the place of a gap, by entries that it stands for."""
        found = self.cover(rng, log, first, count)
        return found if item is None else [(one if one is not None else many, many) for one, many in found if many]

    def index_at(self, copy, count, rng):
        """An index ahead of which there are so many entries, and at which no gap None is; None without one."""
        able = [index for index in range(len(copy) + 1) if sum(many for _, many in copy[:index]) == count
                and (index == len(copy) or copy[index][0] is not None)]
        return rng.choice(able) if able else None

    def test_books(self):
        rng = random.Random(95)
        found = {}
        for _ in range(60):
            while True:
                made = rng.choice([generate.chatty, generate.talker, generate.looped])(rng)
                crowd = (made,) if rng.random() < 0.7 else (made, made)
                drawn = Drawn(rng, crowd)
                if drawn.log():
                    break
            book = Book(made)
            try:
                self.live(rng, book, drawn, found)
            except TooMany:
                found['TooMany'] = found.get('TooMany', 0) + 1
        self.assertGreater(min(found.get(word, 0) for word in ('add', 'fill', 'mend', 'note', 'beside', 'drop', 'tie', 'always', 'never')), 4, found)
        self.assertLess(found.get('TooMany', 0), 20)

    def live(self, rng, book, drawn, found):
        log, copies, read = drawn.log(), [[]], 0
        if rng.random() < 0.3:
            book.revise(0, 0, ())
        seats = tuple([rng.choice([0, None]) for _ in drawn.crowd])
        book.begin_log(seats)
        for _ in range(rng.randint(5, 14)):
            kind = rng.choice(['add', 'add', 'add', 'fill', 'fill', 'mend', 'note', 'note', 'beside', 'drop', 'undo', 'trial', 'tie'])
            deed = getattr(self, 'do_' + kind)
            result = deed(rng, book, drawn, copies, read)
            if result is not None:
                copies, read = result
                found[kind] = found.get(kind, 0) + 1
        self.same(book.sheet_of(0), tuple(tuple(item for item, _ in copy) for copy in copies))
        if read == len(log):
            book.finish(0, drawn.end)
        self.judged(rng, book, drawn, read, found)

    def do_add(self, rng, book, drawn, copies, read):
        log, many = drawn.log(), rng.randint(0, 2)
        many = min(many, len(drawn.log()) - read)
        items = []
        for copy, known in enumerate(copies):
            item = None if many == 0 else rng.choice([None, many, self.torn(rng, log[read]) if many == 1 else many])
            if item is None and [1 for finding in book.findings_of(0) if finding[2:4] == (copy, len(known))]:
                return None
            items.append(item)
        if max(map(len, copies)) > 8:
            return None
        book.add(0, items[0], second=tuple(items[1:]))
        return [[*copy, (item, many)] for copy, item in zip(copies, items)], read + many

    def do_fill(self, rng, book, drawn, copies, read):
        places = [(copy, index) for copy, items in enumerate(copies) for index, (item, _) in enumerate(items) if not isinstance(item, tuple)]
        if not places:
            return None
        copy, index = rng.choice(places)
        item, many = copies[copy][index]
        more = self.finer(rng, drawn.log(), sum(count for _, count in copies[copy][:index]), item, many)
        if len(copies[copy]) + len(more) > 9 or item is not None and not more:
            return None
        book.fill(0, copy, index, tuple(one for one, _ in more))
        return [known if k != copy else [*known[:index], *more, *known[index + 1:]] for k, known in enumerate(copies)], read

    def do_mend(self, rng, book, drawn, copies, read):
        places = [(copy, index) for copy, items in enumerate(copies) for index, (item, _) in enumerate(items) if isinstance(item, tuple)]
        if not places:
            return None
        copy, index = rng.choice(places)
        old = copies[copy][index][0]
        entry = drawn.log()[sum(count for _, count in copies[copy][:index])]
        new = tuple(rng.choice([part, part if part is not None else whole]) for part, whole in zip(old[:2], entry))
        values = rng.choice([None, entry[2]]) if old[2] is None else tuple(
            rng.choice([worth, whole]) if worth is None else worth for worth, whole in zip(old[2], entry[2]))
        book.mend(0, copy, index, (*new, values))
        return [known if k != copy else [*known[:index], ((*new, values), 1), *known[index + 1:]] for k, known in enumerate(copies)], read

    def do_note(self, rng, book, drawn, copies, read):
        if len(book.findings_of(0)) > 1:
            return None
        count, copy, seat = rng.randint(0, read), rng.randrange(len(copies)), rng.randrange(len(drawn.crowd))
        index = self.index_at(copies[copy], count, rng)
        question = generate.fact(rng, drawn.crowd[seat].program)
        if index is None:
            return None
        truth = judge(drawn.crowd[seat], question, drawn.so_far(seat, rng.choice(drawn.moments(count))))
        book.note(0, seat, copy, index, question, truth)
        return copies, read

    def do_beside(self, rng, book, drawn, copies, read):
        if len(copies) == 2:
            return None
        more = self.cover(rng, drawn.log(), 0, read)
        if len(more) > 9:
            return None
        book.beside(0, tuple(item for item, _ in more))
        return [*copies, more], read

    def do_drop(self, rng, book, drawn, copies, read):
        numbers = [finding[0] for finding in book.findings_of(0)]
        if not numbers or rng.random() < 0.5:
            return None
        book.drop(rng.choice(numbers))
        return copies, read

    def do_undo(self, rng, book, drawn, copies, read):
        ahead = shown(book)
        many = rng.randint(1, 3)
        with book.trial():
            for _ in range(many):
                try:
                    book.undo()
                except LogError:
                    return None
            for _ in range(many):
                book.redo()
        self.same(shown(book), ahead)
        if len(book.journal) < 4:
            return None
        book.undo()
        book.redo()
        return copies, read

    def do_trial(self, rng, book, drawn, copies, read):
        ahead = shown(book)
        with book.trial():
            if self.do_add(rng, book, drawn, copies, read) is not None and rng.random() < 0.5:
                book.undo()
        self.same(shown(book), ahead)
        return copies, read

    def do_tie(self, rng, book, drawn, copies, read):
        """The rest is a log that begins with a gap None, for all that came ahead of it."""
        log, many = drawn.log(), min(rng.randint(0, 2), len(drawn.log()) - read)
        more = [self.cover(rng, log, read, many) for _ in copies]
        between = min(rng.randint(0, 1), many)
        parts = [self.cover(rng, log, read + between, many - between) for _ in copies]
        items = ((between, between),) if between else ()
        if max(len(copy) + len(part) for copy, part in zip(copies, parts)) > 7 or len(more) != len(copies):
            return None
        for copy, known in enumerate(copies):
            if not between and [1 for finding in book.findings_of(0) if finding[2:4] == (copy, len(known))]:
                return None
        number = book.begin_log(tuple(rng.choice([0, None]) for _ in drawn.crowd))
        book.add(number, None)
        if len(copies) == 2:
            book.beside(number, (None, *[item for item, _ in parts[1]]))
        for item, _ in parts[0] if len(copies) == 1 else ():
            book.add(number, item)
        if len(copies) == 2:
            book.fill(number, 0, 0, (None, *[item for item, _ in parts[0]]))
        book.tie(0, number, tuple(item for item, _ in items))
        return [[*copy, *items, (None, 0), *part] for copy, part in zip(copies, parts)], read + many

    def judged(self, rng, book, drawn, read, found):
        """What is told of all weavings is so of this one, as far as it is told; the deeds that stand tell the same."""
        log = drawn.log()
        anew = read_journal(self.standing(book.journal))
        for seat, made in enumerate(drawn.crowd):
            for _ in range(4):
                question = generate.fact(rng, made.program)
                try:
                    word = book.ask(0, seat, question)[0]
                except TooMany:
                    found['TooMany'] = found.get('TooMany', 0) + 1
                    continue
                self.same(anew.ask(0, seat, question)[0], word)
                self.same(course(book.journal, 0, seat, question)[-1][1], word)
                found[word] = found.get(word, 0) + 1
                if read == len(log) and word != 'sometimes':
                    truth = judge(made, question, tuple(drawn.runs[seat]))
                    self.same(word, 'always' if truth else 'never')
                self.assertNotEqual(word, 'none')
            self.assertIn(0, book.makers_of(0, seat))

    def standing(self, journal):
        """A journal with the deeds alone that stand."""
        done, undone = [], []
        for line in journal[1:]:
            if line == 'undo':
                undone.append(done.pop())
            elif line == 'redo':
                done.append(undone.pop())
            else:
                done.append(line)
                undone = []
        return (journal[0], *done)


class TestPlainWords(BookCase):
    def test_plain_truth(self):
        made = maker('cell x 1\nhand h\n  a: ask x')
        self.assertIs(plain.is_true(made, ('did', 'a', 1), (), (first_stand(made),)), False)


if __name__ == '__main__':
    unittest.main()
