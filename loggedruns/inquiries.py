"""What the weavings that suit a log of a book tell: fields for each choice of makers for its seats."""

from loggedruns.claims import is_claim
from loggedruns.errors import Impossible
from loggedruns.fields import Growth, closing, least_table
from loggedruns.recalls import Recall
from loggedruns.records import COPY, INDEX, QUESTION, SEAT, Record
from loggedruns.weaves import Weave

LIMIT = 4000
TRUTH = 5


class Inquiry:
    """A record and the walks of all makers, perhaps with a question of one of its seats."""

    def __init__(self, walks, record, seat=None, question=None):
        self.walks = walks
        self.log_record = record
        self.seat = seat
        self.question = question

    def of(self, record):
        """The same of another record."""
        return Inquiry(self.walks, record, self.seat, self.question)

    def asked(self):
        """The questions of the findings, and the question, each as (seat, question)."""
        found = [(finding[SEAT], finding[QUESTION]) for finding in self.log_record.findings]
        return found if self.question is None else [*found, (self.seat, self.question)]

    def choices(self):
        """The ascending numbers of makers for each seat, as tuples, of which all these are questions."""
        found = [()]
        for seat, number in enumerate(self.log_record.seats):
            fit = [maker for maker in makers_for(self.walks, number) if self.has_all(maker, seat)]
            found = [(*numbers, maker) for numbers in found for maker in fit]
        return found

    def has_all(self, number, seat):
        """Whether all questions of a seat are questions of the maker with this number."""
        program = self.walks[number].maker.program
        return all([is_claim(program, question) for other, question in self.asked() if other == seat])

    def field_for(self, numbers):
        """The field of a choice of makers."""
        walks = [self.walks[number] for number in numbers]
        minds = [(seat, Recall(walks[seat].maker, question)) for seat, question in self.asked()]
        marks = [(finding[COPY], finding[INDEX], finding[TRUTH]) for finding in self.log_record.findings]
        return Weave(walks, self.log_record.sheet, self.log_record.end, minds, marks)

    def fields(self):
        """(numbers, field) for each choice of makers, ascending."""
        return [(numbers, self.field_for(numbers)) for numbers in self.choices()]

    def tables(self, limit):
        """(numbers, field, least table) for each choice of makers, ascending."""
        return [(numbers, field, least_table(field, limit)) for numbers, field in self.fields()]


def makers_for(walks, number):
    """The ascending numbers of the makers that a seat with this number, or None, may have."""
    return list(range(len(walks))) if number is None else [number]


def comes_to(field, truth=None):
    """Whether some weaving suits; with a truth, whether the question has it in one that does."""
    growth = Growth(field, [field.first()])
    while not growth.is_grown():
        member = growth.grow()
        if field.closes(member) and (truth is None or field.truth(member) == truth):
            return True
    return False


def is_possible(inquiry):
    """Whether some weaving suits."""
    return any([comes_to(field) for _, field in inquiry.of(brief_record(inquiry.log_record)).fields()])


def is_sure_of(inquiry, truth):
    """Whether of no weaving that suits the question has the other truth."""
    brief = inquiry.of(brief_record(inquiry.log_record))
    return not any([comes_to(field, not truth) for _, field in brief.fields()])


def contradiction(inquiry):
    """The numbers of the findings of which none can be left out, so that still no weaving suits."""
    left = inquiry.log_record.findings
    for finding in inquiry.log_record.findings:
        fewer = [other for other in left if other != finding]
        if not is_possible(inquiry.of(inquiry.log_record.with_findings(fewer))):
            left = fewer
    return tuple([finding[0] for finding in left])


def check_suits(walks, record):
    """Raises TooMany, or Impossible if no weaving suits."""
    inquiry = Inquiry(walks, record)
    found = [closing(field, table) for _, field, table in inquiry.tables(LIMIT)]
    if not any([len(closers) > 0 for closers in found]):
        raise Impossible(contradiction(inquiry))


def brief_record(record):
    """A record that just the same weavings suit, with fewer gaps None: so there are far fewer spots."""
    copies, findings = [], []
    for number, copy in enumerate(record.sheet):
        of_copy = [finding for finding in record.findings if finding[COPY] == number]
        kept = kept_indexes(copy, [finding[INDEX] for finding in of_copy])
        items = tuple([copy[index] for index in kept])
        if items != (None,) or of_copy:
            # A finding moves by the items ahead of it that are left out.
            findings.extend([(*finding[:COPY], len(copies), len([index for index in kept if index < finding[INDEX]]),
                              *finding[QUESTION:]) for finding in of_copy])
            copies.append(items)
    return Record(record.seats, tuple(copies) or ((None,),), record.end, tuple(sorted(findings)))


def kept_indexes(copy, found):
    """Which items of a copy are needed, with findings at these indexes: of gaps None side by side those with one."""
    kept, at = [], 0
    while at < len(copy):
        together = side_by_side(copy, at)
        kept.extend([index for index in together if index in found] or together[:1])
        at += len(together)
    return kept


def side_by_side(copy, at):
    """The indexes of the gaps None from this one on, or of another item alone."""
    behind = at + 1
    while copy[at] is None and behind < len(copy) and copy[behind] is None:
        behind += 1
    return list(range(at, behind))
