"""What the weavings that suit a log tell of a question, and which of its items and findings are enough for that."""

from loggedruns.answers import TRUTHS
from loggedruns.covers import is_ascending
from loggedruns.crowds import is_empty_cover, is_sure_cover, weaving_to
from loggedruns.errors import NoGrounds
from loggedruns.fields import closing
from loggedruns.grounds import all_places, are_places, left_sheet
from loggedruns.inquiries import LIMIT, is_sure_of
from loggedruns.records import Record
from loggedruns.replays import truth_woven
from loggedruns.weaves import told_table
from loggedruns.words import is_same, is_tuple_of, is_whole


def told_tables(tables):
    """Tables as they are told, with the numbers of their makers."""
    return tuple([(numbers, told_table(field, table)) for numbers, field, table in tables])


def asked(inquiry):
    """("none", tables), ("always", tables), ("never", tables), or ("sometimes", with, without)."""
    tables = inquiry.tables(LIMIT)
    found = {}
    for numbers, field, table in tables:
        for member in closing(field, table):
            found.setdefault(field.truth(member), (numbers, field, table, member))
    if len(found) == 2:
        return ("sometimes", told_weaving(found[True]), told_weaving(found[False]))
    for word, truth in TRUTHS.items():
        if truth in found:
            return (word, told_tables(tables))
    return ("none", told_tables(tables))


def told_weaving(found):
    """What was found, the numbers of makers, a field, its table and a member, as (numbers, weaving)."""
    numbers, field, table, member = found
    return (numbers, weaving_to(field, table, member))


def shows(inquiry, value):
    """Whether any value is one of the four, right by itself."""
    if is_tuple_of(value, 3) and value[0] == "sometimes":
        return is_shown(inquiry, value[1], True) and is_shown(inquiry, value[2], False)
    if not is_tuple_of(value, 2) or not isinstance(value[0], str):
        return False
    return (value[0] == "none" or value[0] in TRUTHS) and are_tables(inquiry, value[0], value[1])


def is_shown(inquiry, value, truth):
    """Whether any value is (numbers, weaving): one that suits, of which the question has this truth."""
    if not is_tuple_of(value, 2):
        return False
    chosen = [numbers for numbers in inquiry.choices() if is_same(value[0], numbers)]
    return len(chosen) == 1 and truth_woven(inquiry.field_for(chosen[0]), value[1]) == truth


def are_tables(inquiry, word, value):
    """Whether any value is tables by which a word, always, never or none, is right."""
    fields = inquiry.fields()
    if not is_tuple_of(value, len(fields)) or not all([is_tuple_of(pair, 2) for pair in value]):
        return False
    for (numbers, field), pair in zip(fields, value):
        if not is_same(pair[0], numbers) or not is_right_cover(field, word, pair[1]):
            return False
    return True


def is_right_cover(field, word, value):
    """Whether any value is a cover by which a word is right."""
    if word == "none":
        return is_empty_cover(field, value)
    return is_sure_cover(field, word, value)


def all_numbers(record):
    """The ascending numbers of the findings."""
    return [finding[0] for finding in record.findings]


def left_record(record, left, numbers):
    """What is left with the items at these places, the end if it is there, too, and the findings of these numbers."""
    end = record.end if (len(record.sheet), 0) in left else None
    findings = [finding for finding in record.findings if finding[0] in numbers]
    return Record(record.seats, left_sheet(record.sheet, left), end, tuple(findings))


def reasoned(inquiry):
    """(left, numbers, word, tables): items and findings of which none can be left out, and what they tell."""
    word = asked(inquiry)[0]
    if word not in TRUTHS:
        raise NoGrounds(word)
    record = inquiry.log_record
    left, numbers = all_places(record.sheet, record.end), all_numbers(record)
    places = [place for place in left if place[0] < len(record.sheet)]
    left = fewer_places(inquiry, TRUTHS[word], places, left, numbers)
    for number in all_numbers(record):
        fewer = [other for other in numbers if other != number]
        if is_sure_of(inquiry.of(left_record(record, left, fewer)), TRUTHS[word]):
            numbers = fewer
    ends = [place for place in left if place[0] == len(record.sheet)]
    left = fewer_places(inquiry, TRUTHS[word], ends, left, numbers)
    # The limit is of the log as it is alone.
    tables = inquiry.of(left_record(record, left, numbers)).tables(None)
    return (tuple(left), tuple(numbers), word, told_tables(tables))


def fewer_places(inquiry, truth, tried, left, numbers):
    """The places that are left, when each of those tried is left out without which the answer keeps its word."""
    for place in tried:
        fewer = [other for other in left if other != place]
        if is_sure_of(inquiry.of(left_record(inquiry.log_record, fewer, numbers)), truth):
            left = fewer
    return left


def shows_reasoned(inquiry, value):
    """Whether any value is (left, numbers, word, tables): items and findings that are enough for this word."""
    if not is_tuple_of(value, 4):
        return False
    left, numbers, word, tables = value
    record = inquiry.log_record
    if not are_places(left) or not is_ascending(left):
        return False
    if not all([place in all_places(record.sheet, record.end) for place in left]):
        return False
    if not isinstance(numbers, tuple) or not all([is_whole(number) for number in numbers]) or not is_ascending(numbers):
        return False
    if not all([number in all_numbers(record) for number in numbers]) or not isinstance(word, str):
        return False
    return word in TRUTHS and are_tables(inquiry.of(left_record(record, left, numbers)), word, tables)
