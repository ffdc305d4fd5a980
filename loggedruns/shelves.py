"""What a book has at one time."""

from loggedruns.claims import is_claim
from loggedruns.errors import BadQuestion, NoLog, NoSeat
from loggedruns.inquiries import Inquiry, makers_for
from loggedruns.walks import bare_walk
from loggedruns.words import is_between, is_whole


class Shelf:
    """The walks of the makers, the records of the logs and the next numbers; it is not changed, deeds make new ones."""

    def __init__(self, walks, records, next_log, next_finding):
        self.walks = walks
        self.records = records
        self.next_log = next_log
        self.next_finding = next_finding

    def all_makers(self):
        """The tuple of the makers."""
        return tuple([walk.maker for walk in self.walks])

    def log_numbers(self):
        """The ascending tuple of the numbers of the logs."""
        return tuple(sorted(self.records))

    def with_maker(self, maker):
        """The same with one maker more."""
        return Shelf((*self.walks, bare_walk(maker)), self.records, self.next_log, self.next_finding)

    def with_record(self, number, record):
        """The same with another record of a log."""
        records = {log: self.records[log] for log in self.records}
        records[number] = record
        return Shelf(self.walks, records, self.next_log, self.next_finding)

    def with_log(self, record):
        """The same with one log more."""
        more = self.with_record(self.next_log, record)
        return Shelf(more.walks, more.records, self.next_log + 1, self.next_finding)

    def without_log(self, number):
        """The same without a log."""
        records = {log: self.records[log] for log in self.records if log != number}
        return Shelf(self.walks, records, self.next_log, self.next_finding)

    def with_finding(self, number, record):
        """The same with another record of a log, which has one finding more."""
        more = self.with_record(number, record)
        return Shelf(more.walks, more.records, self.next_log, self.next_finding + 1)

    def record_of(self, log):
        """The record of a log, which may be any value."""
        if not is_whole(log) or log not in self.records:
            raise NoLog(log)
        return self.records[log]

    def has_same(self, other, log):
        """Whether a log, which may be any value, is just as on another shelf, with the same makers."""
        return is_whole(log) and self.walks == other.walks and self.records.get(log) == other.records.get(log)

    def seated(self, log, seat):
        """The record of a log with a seat, which both may be any values."""
        record = self.record_of(log)
        if not is_between(seat, 0, len(record.seats) - 1):
            raise NoSeat(seat)
        return record

    def check_question(self, record, seat, question):
        """Raises BadQuestion for any value that is a question of no maker that the seat may have."""
        makers = makers_for(self.walks, record.seats[seat])
        if not any([is_claim(self.walks[number].maker.program, question) for number in makers]):
            raise BadQuestion(question)

    def inquiry(self, log, seat, question):
        """What is asked of a seat of a log, which all may be any values."""
        record = self.seated(log, seat)
        self.check_question(record, seat, question)
        return Inquiry(self.walks, record, seat, question)
