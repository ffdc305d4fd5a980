"""Crowds: one or two makers, whose runs write one log beside one another."""

from loggedruns.answers import TRUTHS
from loggedruns.claims import check_question
from loggedruns.errors import BadCrowd, NoItem, NoNumber
from loggedruns.fields import closing, leading, least_table
from loggedruns.fitting import check_item
from loggedruns.makers import Maker
from loggedruns.recalls import Recall
from loggedruns.replays import is_fitting_weaving, truth_woven
from loggedruns.sheets import check_end, check_sheet
from loggedruns.spots import is_entry_read
from loggedruns.walks import bare_walk
from loggedruns.ways import searched, way_to
from loggedruns.weaves import MindedWeave, PairWeave, heard_cover, told_table, woven_by
from loggedruns.words import is_between, is_tuple_of

LIMIT = 4000
MOST_MAKERS = 2


def check_crowd(crowd):
    """Raises BadCrowd for any value that is none."""
    if not isinstance(crowd, tuple) or not 1 <= len(crowd) <= MOST_MAKERS:
        raise BadCrowd(crowd)
    if not all([isinstance(maker, Maker) for maker in crowd]):
        raise BadCrowd(crowd)


def check_start(crowd, sheet):
    """Raises what is wrong of any values as crowd and sheet."""
    check_crowd(crowd)
    check_sheet(sheet)


def check_entry_read(sheet, copy, index):
    """Raises NoItem for any values that are no copy, no index of an entry as read in it."""
    check_item(sheet, copy, index)
    if index == len(sheet[copy]) or not is_entry_read(sheet[copy][index]):
        raise NoItem(index)


def check_number(crowd, number):
    """Raises NoNumber for any value that is not the number of a run."""
    if not is_between(number, 0, len(crowd) - 1):
        raise NoNumber(number)


def pairs_of(crowd, sheet, end, only=None):
    """The field of a crowd without memories; the end may be any value."""
    check_end(end)
    return PairWeave([bare_walk(maker) for maker in crowd], sheet, end, only=only)


def weaving_to(field, table, member):
    """The weaving by which a search comes to a member."""
    _, links = way_to(searched(table, [field.first()]), member)
    return woven_by(links, len(field.walks))


def first_closing(field, table, word):
    """(word, the weaving that comes to the first member that closes), None if no member closes."""
    closers = closing(field, table)
    return (word, weaving_to(field, table, closers[0])) if closers else None


def woven(crowd, sheet, *, end=None):
    """("weaving", one that fits), or ("none", a cover in which no pair closes)."""
    check_start(crowd, sheet)
    field = pairs_of(crowd, sheet, end)
    table = least_table(field, LIMIT)
    return first_closing(field, table, "weaving") or ("none", told_table(field, table))


def fits_woven(crowd, sheet, value, *, end=None):
    """Whether any value is a weaving that fits."""
    check_start(crowd, sheet)
    return is_fitting_weaving(pairs_of(crowd, sheet, end), value)


def takers(field, table, copy, index):
    """The numbers of the runs by which the item is taken on ways to members that close."""
    useful = leading(field, table)
    found = {link[0]: True for member in useful if member[1][copy] == (index, 0) for link in table[member]
             if link[2] is not None and link[3] in useful}
    return tuple(sorted(found))


def whose(crowd, sheet, copy, index, *, end=None):
    """The numbers of the runs by which an entry as read is taken in some weaving that fits."""
    check_start(crowd, sheet)
    check_entry_read(sheet, copy, index)
    field = pairs_of(crowd, sheet, end)
    return takers(field, least_table(field, LIMIT), copy, index)


def why(crowd, sheet, copy, index, number, *, end=None):
    """("may", a weaving in which this run takes the item), or ("never", a cover that shows that there is none)."""
    check_start(crowd, sheet)
    check_entry_read(sheet, copy, index)
    check_number(crowd, number)
    # The limit is of the cover with all steps.
    least_table(pairs_of(crowd, sheet, end), LIMIT)
    field = pairs_of(crowd, sheet, end, (copy, index, number))
    table = least_table(field, None)
    return first_closing(field, table, "may") or ("never", told_table(field, table))


def shows_why(crowd, sheet, copy, index, number, value, *, end=None):
    """Whether any value is one of both, right by itself."""
    check_start(crowd, sheet)
    check_entry_read(sheet, copy, index)
    check_number(crowd, number)
    field = pairs_of(crowd, sheet, end, (copy, index, number))
    if not is_tuple_of(value, 2):
        return False
    if value[0] == "may":
        return is_fitting_weaving(field, value[1])
    return value[0] == "never" and is_empty_cover(field, value[1])


def is_empty_cover(field, value):
    """Whether any value is a cover of a field in which no member closes."""
    members = heard_cover(field, value)
    return members is not None and not closing(field, members)


def minded_of(crowd, sheet, number, question, end):
    """The field of a crowd with the memory of one run; all may be any values."""
    check_start(crowd, sheet)
    check_number(crowd, number)
    check_question(crowd[number].program, question)
    check_end(end)
    walks = [bare_walk(maker) for maker in crowd]
    return MindedWeave(walks, sheet, end, ((number, Recall(crowd[number], question)),))


def answer_of(crowd, sheet, number, question, *, end=None):
    """As answer, of one run of the weavings that fit."""
    field = minded_of(crowd, sheet, number, question, end)
    table = least_table(field, LIMIT)
    closers = {truth: [member for member in closing(field, table) if field.truth(member) == truth]
               for truth in (True, False)}
    if closers[True] and closers[False]:
        return ("sometimes", *[weaving_to(field, table, closers[truth][0]) for truth in (True, False)])
    for word, truth in TRUTHS.items():
        if closers[truth]:
            return (word, told_table(field, table))
    return ("none", tuple(sorted({member[:2] for member in table})))


def shows_answer_of(crowd, sheet, number, question, value, *, end=None):
    """Whether any value is one of the four answers, right by itself."""
    field = minded_of(crowd, sheet, number, question, end)
    if is_tuple_of(value, 3) and value[0] == "sometimes":
        return truth_woven(field, value[1]) is True and truth_woven(field, value[2]) is False
    if not is_tuple_of(value, 2):
        return False
    if value[0] == "none":
        return is_empty_cover(pairs_of(crowd, sheet, end), value[1])
    return is_sure_cover(field, value[0], value[1])


def is_sure_cover(field, word, value):
    """Whether any values are always or never, and a cover with memories that shows it."""
    if not isinstance(word, str) or word not in TRUTHS:
        return False
    members = heard_cover(field, value)
    return members is not None and all([field.truth(member) == TRUTHS[word] for member in closing(field, members)])
