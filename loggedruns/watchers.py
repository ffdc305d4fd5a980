"""Watchers: what each log tells of a question, read entry by entry."""

from loggedruns.claims import check_question
from loggedruns.covers import is_ascending
from loggedruns.ends import Ends
from loggedruns.fields import closed_table
from loggedruns.forms import Forms
from loggedruns.partings import partings_of
from loggedruns.recalls import Recall
from loggedruns.walks import Walk
from loggedruns.words import is_between, is_tuple_of

LIMIT = 200
WORDS = ("always", "never", "sometimes")


def ends_of(maker, question):
    """The sets of nodes of a maker with a question, which may be any value."""
    check_question(maker.program, question)
    return Ends(Walk(maker, Recall(maker, question)))


def watcher(maker, question):
    """(words, moves, partings): the right watcher with the fewest states, and what parts each two of them."""
    ends = ends_of(maker, question)
    table = closed_table(ends, [ends.first()], LIMIT)
    kinds = kinds_of(ends, table)
    words, found = numbered(ends, table, kinds)
    moves = tuple([(state, entry, found[state][entry]) for state in range(len(found)) for entry in found[state]])
    return (words, moves, partings_of(words, found))


def kinds_of(ends, table):
    """For each set a number of its kind: alike just if behind any log both tell the same."""
    kinds = {ones: WORDS.index(ends.word_of(ones)) for ones in table}
    many = 0
    while many < len(set(list(kinds.values()))):
        many = len(set(list(kinds.values())))
        seen = {ones: (kinds[ones], tuple([(entry, kinds[there]) for entry, there in links]))
                for ones, links in table.items()}
        numbers = {}
        kinds = {ones: numbers.setdefault(seen[ones], len(numbers)) for ones in table}
    return kinds


def numbered(ends, table, kinds):
    """The words of the kinds, and the moves of each as {entry: state}, numbered as they are met."""
    words, found = [], []
    queue = [ends.first()]
    numbers = {kinds[queue[0]]: 0}
    while len(found) < len(queue):
        ones = queue[len(found)]
        for _, there in table[ones]:
            if kinds[there] not in numbers:
                numbers[kinds[there]] = len(queue)
                queue.append(there)
        words.append(ends.word_of(ones))
        found.append({entry: numbers[kinds[there]] for entry, there in table[ones]})
    return (tuple(words), found)


def shows_watcher(maker, question, value):
    """Whether any value is (words, moves) of a watcher that is right."""
    ends = ends_of(maker, question)
    if not is_tuple_of(value, 2) or not are_words(value[0]) or not are_moves(maker, len(value[0]), value[1]):
        return False
    words, moves = value
    found = [{} for _ in words]
    for state, entry, target in moves:
        found[state][entry] = target
    queue = [(0, ends.first())]
    seen = {queue[0]: True}
    while queue:
        state, ones = queue.pop()
        behind = ends.after_entries(ones)
        if words[state] != ends.word_of(ones) or list(behind) != sorted(found[state]):
            return False
        for entry in behind:
            pair = (found[state][entry], behind[entry])
            if pair not in seen:
                seen[pair] = True
                queue.append(pair)
    return True


def are_words(value):
    """Whether any value is a tuple of words for one state or more."""
    if not isinstance(value, tuple) or not value:
        return False
    return all([isinstance(word, str) and word in WORDS for word in value])


def are_moves(maker, many, value):
    """Whether any value is an ascending tuple of (state, entry, state), no (state, entry) twice, for so many states."""
    if not isinstance(value, tuple) or not all([is_tuple_of(move, 3) for move in value]):
        return False
    forms = Forms(maker)
    for state, entry, target in value:
        if not is_between(state, 0, many - 1) or not is_between(target, 0, many - 1) or not forms.is_made(entry):
            return False
    return is_ascending([move[:2] for move in value])
