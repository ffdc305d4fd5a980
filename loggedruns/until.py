"""Runs that go on behind a log of a book."""

from loggedruns.errors import Unknown
from loggedruns.fields import closing, least_table
from loggedruns.inquiries import Inquiry
from loggedruns.lateness import check_lasting
from loggedruns.replays import is_fitting_weaving
from loggedruns.walks import Walk
from loggedruns.watches import Watch
from loggedruns.ways import searched, way_to
from loggedruns.weaves import woven_by


class Suiting:
    """The runs that suit a log of one seat; the field has the question as its last mind."""

    def __init__(self, field, limit):
        self.field = field
        self.limit = limit

    def ends(self):
        """For each node that these runs have at their ends, one of them."""
        table = least_table(self.field, self.limit)
        found = searched(table, [self.field.first()])
        ends = {}
        for member in closing(self.field, table):
            _, links = way_to(found, member)
            runs, _ = woven_by(links, 1)
            ends[(member[0][0], member[2][-1])] = runs[0]
        return ends

    def has(self, run, trail):
        """Whether a run, of which this is the trail, is one of them."""
        return is_fitting_weaving(self.field, ((run,), (0,) * len(trail.log(0))))


def watch_of_log(shelf, log, question, limit):
    """The watch for a lasting question behind a log, which both may be any values."""
    record = shelf.record_of(log)
    if len(record.seats) > 1 or record.seats[0] is None:
        raise Unknown(log)
    maker = shelf.walks[record.seats[0]].maker
    check_lasting(maker.program, question)
    field = Inquiry(shelf.walks, record, 0, question).field_for(record.seats)
    return Watch(Walk(maker, field.minds[-1][1]), Suiting(field, limit))
