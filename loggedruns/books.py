"""Books: logs that come item by item, of makers that are known or not, with copies and findings."""

from loggedruns.asking import asked, reasoned
from loggedruns.crowds import check_entry_read, takers
from loggedruns.deedlines import first_line, line_of
from loggedruns.errors import (BadMaker, BadQuestion, BadSeats, BadTie, BadTruth, NoFinding, NoItem, NothingToRedo,
                               NothingToUndo, TooMany)
from loggedruns.fields import closing
from loggedruns.fitting import check_item
from loggedruns.inquiries import LIMIT, Inquiry, check_suits
from loggedruns.lateness import told_late
from loggedruns.makers import Maker
from loggedruns.records import MOST_FINDINGS, Record, added, doubled, filled, finished, mended, tied
from loggedruns.revising import revised
from loggedruns.shelves import Shelf
from loggedruns.trials import Trial
from loggedruns.until import watch_of_log
from loggedruns.walks import bare_walk
from loggedruns.words import is_between, is_whole

MOST_MAKERS = 4
MOST_LOGS = 8
MOST_SEATS = 2


class Book:
    """The makers, logs and findings that there are: its shelf, the shelves of the past, and of what was undone."""

    def __init__(self, maker):
        if not isinstance(maker, Maker):
            raise BadMaker(maker)
        self.shelf = Shelf((bare_walk(maker),), {}, 0, 0)
        self.past = ()
        self.future = ()
        self.makers = (maker,)
        self.logs = ()
        self.journal = (first_line(maker),)

    def turn(self, shelf, past, future, line):
        """The book has another shelf, with others behind and ahead of it."""
        self.shelf = shelf
        self.past = past
        self.future = future
        self.makers = shelf.all_makers()
        self.logs = shelf.log_numbers()
        self.journal = (*self.journal, line)

    def note_deed(self, shelf, word, parts):
        """A deed is done by which the book gets another shelf."""
        self.turn(shelf, (*self.past, self.shelf), (), line_of(word, parts))

    def check(self, record):
        """Raises TooMany, or Impossible if no weaving suits a record."""
        check_suits(self.shelf.walks, record)

    def change(self, log, record, word, parts):
        """A deed is done by which a log gets another record, if that is possible."""
        self.check(record)
        self.note_deed(self.shelf.with_record(log, record), word, parts)

    def revise(self, first, last, lines, *, recorder=None):
        """A new maker, with lines in the place of some of the last one's; returns its number."""
        maker = revised(self.makers[-1], first, last, lines, recorder)
        number = len(self.makers)
        if number == MOST_MAKERS:
            raise TooMany(MOST_MAKERS)
        self.note_deed(self.shelf.with_maker(maker), "revise", (first, last, (recorder, lines)))
        return number

    def begin_log(self, seats=(None,)):
        """A new log without items; returns its number."""
        if not isinstance(seats, tuple) or not 1 <= len(seats) <= MOST_SEATS:
            raise BadSeats(seats)
        if not all([seat is None or is_between(seat, 0, len(self.makers) - 1) for seat in seats]):
            raise BadSeats(seats)
        if len(self.logs) == MOST_LOGS:
            raise TooMany(MOST_LOGS)
        record = Record(seats, ((),), None, ())
        self.check(record)
        number = self.shelf.next_log
        self.note_deed(self.shelf.with_log(record), "log", (seats,))
        return number

    def sheet_of(self, log):
        """The sheet of a log."""
        return self.shelf.record_of(log).sheet

    def end_of(self, log):
        """The end of a log, None if none was told."""
        return self.shelf.record_of(log).end

    def seats_of(self, log):
        """The seats of a log."""
        return self.shelf.record_of(log).seats

    def findings_of(self, log):
        """The findings of a log, each as (number, seat, copy, index, question, truth)."""
        return self.shelf.record_of(log).findings

    def add(self, log, item, *, second=()):
        """An item comes behind the last one of each copy; second may have another one for the second copy."""
        record = added(self.shelf.record_of(log), item, second)
        self.change(log, record, "add", (log, (item, second)))

    def beside(self, log, items):
        """A second copy of all that the log has so far."""
        record = doubled(self.shelf.record_of(log), items)
        self.change(log, record, "beside", (log, items))

    def fill(self, log, copy, index, items):
        """Items come in the place of a gap."""
        record = filled(self.shelf.record_of(log), copy, index, items)
        self.change(log, record, "fill", (log, copy, index, items))

    def mend(self, log, copy, index, entry):
        """An entry as read comes in the place of one of which less was read."""
        record = mended(self.shelf.record_of(log), copy, index, entry)
        self.change(log, record, "mend", (log, copy, index, entry))

    def finish(self, log, end):
        """The log ends so."""
        record = finished(self.shelf.record_of(log), end)
        self.change(log, record, "finish", (log, end))

    def tie(self, log, other, items):
        """Another log is the rest of this one, behind these items."""
        record, rest = self.shelf.record_of(log), self.shelf.record_of(other)
        if log == other:
            raise BadTie(other)
        whole = tied(record, other, rest, items)
        self.check(whole)
        shelf = self.shelf.without_log(other).with_record(log, whole)
        self.note_deed(shelf, "tie", (log, other, items))

    def note(self, log, seat, copy, index, question, truth):
        """A finding: what was seen of a run at a spot; returns its number."""
        record = self.shelf.seated(log, seat)
        check_item(record.sheet, copy, index)
        if record.sheet[copy][index:index + 1] == (None,):
            raise NoItem(index)
        self.shelf.check_question(record, seat, question)
        if not isinstance(truth, bool):
            raise BadTruth(truth)
        if len(record.findings) == MOST_FINDINGS:
            raise TooMany(MOST_FINDINGS)
        number = self.shelf.next_finding
        more = record.with_findings([*record.findings, (number, seat, copy, index, question, truth)])
        self.check(more)
        self.note_deed(self.shelf.with_finding(log, more), "note", (log, seat, copy, index, truth, question))
        return number

    def drop(self, number):
        """A finding is left out."""
        for log in self.logs:
            record = self.shelf.record_of(log)
            fewer = [finding for finding in record.findings if finding[0] != number]
            if is_whole(number) and len(fewer) < len(record.findings):
                self.note_deed(self.shelf.with_record(log, record.with_findings(fewer)), "drop", (number,))
                return
        raise NoFinding(number)

    def ask(self, log, seat, question):
        """What the weavings that suit tell of a question of one run."""
        return asked(self.shelf.inquiry(log, seat, question))

    def tables_of(self, record):
        """The tables of a record without a question, each as (numbers, field, table)."""
        return Inquiry(self.shelf.walks, record).tables(LIMIT)

    def makers_of(self, log, seat):
        """The numbers of the makers that a seat has in some weaving that suits."""
        tables = self.tables_of(self.shelf.seated(log, seat))
        found = {numbers[seat]: True for numbers, field, table in tables if closing(field, table)}
        return tuple(sorted(found))

    def writers(self, log, copy, index):
        """The numbers of the runs by which an entry as read is taken in some weaving that suits."""
        record = self.shelf.record_of(log)
        check_entry_read(record.sheet, copy, index)
        found = {seat: True for _, field, table in self.tables_of(record)
                 for seat in takers(field, table, copy, index)}
        return tuple(sorted(found))

    def reasons(self, log, seat, question):
        """(left, numbers, word, tables): items and findings that are enough for what is told of a question."""
        return reasoned(self.shelf.inquiry(log, seat, question))

    def until(self, log, question):
        """How late a question is sure behind a log, as late tells it."""
        return told_late(watch_of_log(self.shelf, log, question, LIMIT))

    def suspects(self, question):
        """(log, seat, word) for each seat of each log: the word of ask, or unknown."""
        return tuple([(log, seat, self.told_word(log, seat, question)) for log in self.logs
                      for seat in range(len(self.seats_of(log)))])

    def told_word(self, log, seat, question):
        """The word of ask, or unknown where the question is one of no maker that the seat may have."""
        try:
            return self.ask(log, seat, question)[0]
        except BadQuestion:
            return "unknown"

    def undo(self):
        """The last deed that was not taken back is taken back."""
        if not self.past:
            raise NothingToUndo(None)
        self.turn(self.past[-1], self.past[:-1], (*self.future, self.shelf), line_of("undo", ()))

    def redo(self):
        """What was taken back last is done again."""
        if not self.future:
            raise NothingToRedo(None)
        self.turn(self.future[-1], (*self.past, self.shelf), self.future[:-1], line_of("redo", ()))

    def trial(self):
        """A block behind which the book is as it was, unless it is held."""
        return Trial(self)

    def tried(self, deed, *, hold=False):
        """What a deed with the book returns; it is held if hold is True alone."""
        with self.trial() as trial:
            found = deed(self)
            if hold is True:
                trial.hold()
        return found
