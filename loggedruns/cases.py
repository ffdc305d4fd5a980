"""Which other questions settle a question for the runs that fit."""

from loggedruns.answers import run_to
from loggedruns.claims import check_question, is_claim
from loggedruns.covers import LIMIT, is_ascending, is_cover
from loggedruns.errors import BadTests
from loggedruns.fields import closing, least_table
from loggedruns.minded import MindedField
from loggedruns.prices import choices, is_many, is_price
from loggedruns.recalls import Recalls
from loggedruns.sheets import check_end, check_sheet
from loggedruns.walks import Walk
from loggedruns.ways import searched
from loggedruns.words import is_tuple_of, is_whole


def are_tests(program, value):
    """Whether any value is a tuple of pairs (question, price)."""
    if not is_many(value) or not all([is_tuple_of(pair, 2) for pair in value]):
        return False
    return all([is_claim(program, question) and is_price(price) for question, price in value])


def field_of_all(maker, sheet, question, others, end):
    """The field of a sheet with the memories of the others and then of the question; all may be any values."""
    check_sheet(sheet)
    check_question(maker.program, question)
    if not are_tests(maker.program, others):
        raise BadTests(others)
    check_end(end)
    questions = [other for other, _ in others] + [question]
    return MindedField(Walk(maker, Recalls(maker, questions)), sheet, end)


def tests(maker, sheet, question, others, *, end=None):
    """(numbers, cases, table): the cheapest others that settle the question, and what shows it."""
    field = field_of_all(maker, sheet, question, others, end)
    table = least_table(field, LIMIT)
    members = {}
    for member in closing(field, table):
        members.setdefault(field.truth(member), member)
    found = searched(table, [field.first()])
    cases = tuple([(truths, run_to(found, members[truths])) for truths in sorted(members)])
    return (cheapest_numbers(list(members), others), cases, tuple(sorted(table)))


def cheapest_numbers(cases, others):
    """The numbers of the cheapest others that settle the question in these cases, of several the least tuple."""
    for numbers in choices(list(range(len(others))), [price for _, price in others]):
        if are_enough(cases, numbers):
            return numbers
    return None


def are_enough(cases, numbers):
    """Whether in cases in which the others with these numbers are alike, the question is."""
    found = {}
    for truths in cases:
        seen = tuple([truths[number] for number in numbers])
        if found.setdefault(seen, truths[-1]) != truths[-1]:
            return False
    return True


def shows_tests(maker, sheet, question, others, value, *, end=None):
    """Whether any value is (numbers, cases, table) as tests tells them."""
    field = field_of_all(maker, sheet, question, others, end)
    if not is_tuple_of(value, 3):
        return False
    numbers, cases, table = value
    if not are_cases(field, cases) or not is_cover(field, table):
        return False
    known = [truths for truths, _ in cases]
    if not all([field.truth(member) in known for member in closing(field, table)]):
        return False
    if numbers is not None and not (isinstance(numbers, tuple) and all([is_whole(number) for number in numbers])):
        return False
    return numbers == cheapest_numbers(known, others)


def are_cases(field, value):
    """Whether any value is a tuple of pairs (truths, run), ascending, each run one that fits of which they are so."""
    if not isinstance(value, tuple) or not all([is_tuple_of(case, 2) for case in value]):
        return False
    for truths, run in value:
        if not isinstance(truths, tuple) or not all([truth is True or truth is False for truth in truths]):
            return False
        if field.truth_of(run) != truths:
            return False
    return is_ascending([truths for truths, _ in value])
