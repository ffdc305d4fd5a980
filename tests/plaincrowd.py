"""The document's words about crowds, told again as plainly as can be, to compare with."""

import itertools

from loggedruns.stands import after, first_stand, is_stand, state, steps
from tests import brute, plain, plainlate


def got(entries):
    return tuple([entry for entry in entries if entry is not None])


def numberings(counts):
    """All sequences in which so many entries of each run can come."""
    whole = [number for number, count in enumerate(counts) for _ in range(count)]
    return sorted(set(itertools.permutations(whole))) if len(whole) < 7 else None


def log_of(logs, numbers):
    parts = [list(log) for log in logs]
    return tuple([parts[number].pop(0) for number in numbers])


def is_over(crowd, stands):
    return all(state(made, stand) != 'open' for made, stand in zip(crowd, stands))


def ends(crowd, stands, end):
    return end is None or (end == 'over') == is_over(crowd, stands)


class Weavings:
    """All weavings of makers of which all runs are known, as (runs, numbers), each with its last stands."""

    def __init__(self, crowd, runs):
        self.crowd, self.runs = crowd, runs
        self.known = {}

    def ways(self, sheet, log):
        if (sheet, log) not in self.known:
            self.known[sheet, log] = brute.ways(sheet, log)
        return self.known[sheet, log]

    def fitting(self, sheet, end):
        """Those that fit, each as (runs, numbers, log, parts): parts are (run, stands, entries)."""
        found = []
        for parts in itertools.product(*self.runs):
            if not ends(self.crowd, [stands[-1] for _, stands, _ in parts], end):
                continue
            logs = [got(entries) for _, _, entries in parts]
            for numbers in numberings([len(log) for log in logs]):
                log = log_of(logs, numbers)
                if self.ways(sheet, log):
                    found.append((tuple([run for run, _, _ in parts]), numbers, log, parts))
        return found

    def takers(self, sheet, copy, index, end):
        """The numbers of the runs by which an item is taken."""
        found = set()
        for _, numbers, log, _ in self.fitting(sheet, end):
            found |= self.takers_of(sheet, copy, index, numbers, log)
        return tuple(sorted(found))

    def takers_of(self, sheet, copy, index, numbers, log):
        return {numbers[done] for way in self.ways(sheet, log) for (done, spot), (later, _) in zip(way, way[1:])
                if later > done and spot[copy] == (index, 0)}

    def word(self, sheet, number, question, end):
        truths = {plain.is_true(self.crowd[number], question, *parts[number][:2])
                  for _, _, _, parts in self.fitting(sheet, end)}
        return plain.word(list(truths))


def targets(crowd, sheet, pair, only=None):
    """Where a pair (stands, spot) leads, each as (seat, step, pair)."""
    stands, spot = pair
    found = [(None, None, (stands, way)) for way in brute.spots_passed(sheet, spot)]
    for seat, made in enumerate(crowd):
        for step in steps(made, stands[seat]):
            behind, entry = after(made, stands[seat], step)
            others = tuple(behind if k == seat else stand for k, stand in enumerate(stands))
            if entry is None:
                found.append((seat, step, (others, spot)))
            elif only is None or spot[only[0]] != (only[1], 0) or seat == only[2]:
                found.extend([(seat, step, (others, way)) for way in brute.spots_behind(sheet, spot, entry)])
    return found


def first_pair(crowd, sheet):
    return (tuple(first_stand(made) for made in crowd), tuple((0, 0) for _ in sheet))


def is_spot(sheet, spot):
    if not isinstance(spot, tuple) or len(spot) != len(sheet):
        return False
    for copy, one in zip(sheet, spot):
        if not isinstance(one, tuple) or len(one) != 2 or not all(type(part) is int for part in one):
            return False
        index, part = one
        if not 0 <= index <= len(copy) or not 0 <= part < (copy[index] if index < len(copy) and type(copy[index]) is int else 1):
            return False
    return True


def is_pair(crowd, sheet, value):
    if not isinstance(value, tuple) or len(value) != 2 or not isinstance(value[0], tuple) or len(value[0]) != len(crowd):
        return False
    return all(is_stand(made, stand) for made, stand in zip(crowd, value[0])) and is_spot(sheet, value[1])


def closes(crowd, sheet, pair, end):
    return pair[1] == tuple((len(copy), 0) for copy in sheet) and ends(crowd, pair[0], end)


def is_ascending(value):
    return all(one < other for one, other in zip(value, value[1:]))


def is_cover(crowd, sheet, value, only=None):
    """Whether any value is a cover; with only, not all steps need be followed."""
    if not isinstance(value, tuple) or not all(is_pair(crowd, sheet, pair) for pair in value) or not is_ascending(value):
        return False
    if first_pair(crowd, sheet) not in value:
        return False
    return all(there in value for pair in value for _, _, there in targets(crowd, sheet, pair, only))


def minded_targets(crowd, sheet, member, number, question):
    """Where (stands, spot, memory) leads."""
    made, facts = crowd[number], plain.facts(question)
    found = []
    for seat, step, (stands, spot) in targets(crowd, sheet, member[:2]):
        memory = member[2]
        if seat == number:
            memory = tuple([plainlate.mark_behind(made, fact, mark, member[0][seat], step, stands[seat])
                            for fact, mark in zip(facts, memory)])
        found.append((stands, spot, memory))
    return found


def first_minded(crowd, sheet, number, question):
    return (*first_pair(crowd, sheet), plainlate.first(crowd[number], question)[1])


def least(first, targets_of):
    """The least closed table, ascending."""
    found, queue = {first}, [first]
    while queue:
        for there in targets_of(queue.pop()):
            if there not in found:
                found.add(there)
                queue.append(there)
    return tuple(sorted(found))


def greatest(fact):
    return {'did': 0, 'fell': 0, 'spilt': 0, 'ahead': 2, 'asked': 1, 'was': 1, 'by': 1}.get(fact[0], 0) or (
        fact[-1] if fact[0] in ('did', 'fell', 'spilt') else 0)


def is_memory(question, value):
    facts = plain.facts(question)
    if not isinstance(value, tuple) or len(value) != len(facts):
        return False
    return all(type(mark) is int and 0 <= mark <= greatest(fact) for fact, mark in zip(facts, value))


def shows_sure(crowd, sheet, number, question, value, end, truth):
    """Whether any value is a cover with memories by which the question is (is not) true."""
    if not isinstance(value, tuple):
        return False
    for member in value:
        if not isinstance(member, tuple) or len(member) != 3 or not is_pair(crowd, sheet, member[:2]):
            return False
        if not is_memory(question, member[2]):
            return False
    if not is_ascending(value) or first_minded(crowd, sheet, number, question) not in value:
        return False
    if not all(there in value for member in value for there in minded_targets(crowd, sheet, member, number, question)):
        return False
    return all(plainlate.is_true(crowd[number], question, (stands[number], memory)) is truth
               for stands, spot, memory in value if closes(crowd, sheet, (stands, spot), end))
