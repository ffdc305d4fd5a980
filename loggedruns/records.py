"""What a book has of a log, and how deeds change it."""

from loggedruns.errors import BadItem, BadItems, BadTie, NoItem, TooMany
from loggedruns.fitting import check_item
from loggedruns.sheets import check_end
from loggedruns.spots import MOST_COPIES, MOST_ITEMS, is_copy, is_entry_read, is_gap, is_item
from loggedruns.words import is_tuple_of

MOST_FINDINGS = 4

# The parts of a finding.
SEAT = 1
COPY = 2
INDEX = 3
QUESTION = 4


class Record:
    """The seats, the sheet, the end and the findings of a log; it is not changed, deeds make a new one."""

    def __init__(self, seats, sheet, end, findings):
        self.seats = seats
        self.sheet = sheet
        self.end = end
        self.findings = findings

    def with_sheet(self, sheet):
        """The same with another sheet."""
        return Record(self.seats, sheet, self.end, self.findings)

    def with_findings(self, findings):
        """The same with other findings."""
        return Record(self.seats, self.sheet, self.end, tuple(findings))

    def has_finding(self, copy, index):
        """Whether a finding is of the spot (index, 0) of a copy."""
        return any([finding[COPY] == copy and finding[INDEX] == index for finding in self.findings])

    def has_finding_at_end(self, copies):
        """Whether a finding is of the spot at which a copy is read, the copy here beginning with a gap None."""
        return any([copies[copy][:1] == (None,) and self.has_finding(copy, len(self.sheet[copy]))
                    for copy in range(len(self.sheet))])


def can_stand(record, copy, value):
    """Whether any value is an item that can stand behind the last one of a copy."""
    if not is_item(value) or len(record.sheet[copy]) == MOST_ITEMS:
        return False
    return value is not None or not record.has_finding(copy, len(record.sheet[copy]))


def added(record, item, second):
    """The record with an item behind the last one of each copy."""
    sheet = record.sheet
    if not all([can_stand(record, number, item) for number in range(len(sheet) if second == () else 1)]):
        raise BadItem(item)
    if second == ():
        return record.with_sheet(tuple([(*copy, item) for copy in sheet]))
    if not is_tuple_of(second, 1) or len(sheet) == 1 or not can_stand(record, 1, second[0]):
        raise BadItem(second)
    return record.with_sheet(((*sheet[0], item), (*sheet[1], second[0])))


def doubled(record, items):
    """The record with these items as a second copy."""
    if len(record.sheet) == MOST_COPIES or not is_copy(items):
        raise BadItems(items)
    return record.with_sheet((*record.sheet, items))


def with_copy(sheet, number, copy):
    """A sheet with another copy in the place of one."""
    return (*sheet[:number], copy, *sheet[number + 1:])


def check_place(record, copy, index):
    """Raises NoItem for any values that are no copy, no index of an item in it."""
    check_item(record.sheet, copy, index)
    if index == len(record.sheet[copy]):
        raise NoItem(index)


def filled(record, copy, index, items):
    """The record with items in the place of a gap."""
    check_place(record, copy, index)
    old = record.sheet[copy]
    gap = old[index]
    if is_entry_read(gap):
        raise NoItem(index)
    if not is_copy(items) or len(old) - 1 + len(items) > MOST_ITEMS or not fills(gap, items):
        raise BadItems(items)
    more = len(items) - 1
    findings = [moved(finding, more) if finding[COPY] == copy and finding[INDEX] > index else finding
                for finding in record.findings]
    sheet = with_copy(record.sheet, copy, (*old[:index], *items, *old[index + 1:]))
    return record.with_sheet(sheet).with_findings(findings)


def fills(gap, items):
    """Whether items can stand in the place of a gap."""
    if gap is None:
        return True
    if None in items:
        return False
    return sum([item if is_gap(item) else 1 for item in items]) == gap


def moved(finding, more):
    """A finding with an index so much greater."""
    return (*finding[:INDEX], finding[INDEX] + more, *finding[INDEX + 1:])


def mended(record, copy, index, entry):
    """The record with an entry as read in the place of one of which less was read."""
    check_place(record, copy, index)
    old = record.sheet[copy]
    if not is_entry_read(old[index]):
        raise NoItem(index)
    if not is_item(entry) or not is_entry_read(entry) or not keeps(old[index], entry):
        raise BadItem(entry)
    return record.with_sheet(with_copy(record.sheet, copy, (*old[:index], entry, *old[index + 1:])))


def keeps(old, entry):
    """Whether an entry as read has all that was read of another one."""
    if not all([read is None or read == part for read, part in zip(old[:2], entry[:2])]):
        return False
    if old[2] is None:
        return True
    if entry[2] is None or len(old[2]) != len(entry[2]):
        return False
    return all([read is None or read == worth for read, worth in zip(old[2], entry[2])])


def finished(record, end):
    """The record with another end."""
    check_end(end)
    return Record(record.seats, record.sheet, end, record.findings)


def can_be_tied(record, rest, items):
    """Whether a log can be tied to another one, with any value as items."""
    if len(record.sheet) != len(rest.sheet) or len(record.seats) != len(rest.seats):
        return False
    if not all([None in (one, other) or one == other for one, other in zip(record.seats, rest.seats)]):
        return False
    return items != () or not record.has_finding_at_end(rest.sheet)


def can_be_between(record, rest, items):
    """Whether any value is items that can stand between two logs."""
    if not is_copy(items) or record.has_finding_at_end((items,) * len(record.sheet)):
        return False
    return all([len(copy) + len(items) + len(other) <= MOST_ITEMS for copy, other in zip(record.sheet, rest.sheet)])


def tied(record, number, rest, items):
    """The record with items and another log, which has this number, behind it."""
    if not can_be_tied(record, rest, items):
        raise BadTie(number)
    if not can_be_between(record, rest, items):
        raise BadItems(items)
    if len(record.findings) + len(rest.findings) > MOST_FINDINGS:
        raise TooMany(MOST_FINDINGS)
    seats = tuple([other if one is None else one for one, other in zip(record.seats, rest.seats)])
    sheet = tuple([(*copy, *items, *other) for copy, other in zip(record.sheet, rest.sheet)])
    later = [moved(finding, len(record.sheet[finding[COPY]]) + len(items)) for finding in rest.findings]
    return Record(seats, sheet, rest.end, tuple(sorted([*record.findings, *later])))
