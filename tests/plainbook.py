"""The document's words about books, told again as plainly as can be, to compare with."""

import itertools

from loggedruns.questions import is_question
from tests import brute, plain, plaincrowd, plainlate

class PlainLog:
    """Seats, sheet, end and findings of a log, each finding (number, seat, copy, index, question, truth)."""

    def __init__(self, seats, sheet, end, findings):
        self.seats, self.sheet, self.end, self.findings = seats, sheet, end, findings


def log_in(book, log):
    return PlainLog(book.seats_of(log), book.sheet_of(log), book.end_of(log), book.findings_of(log))


class PlainMakers:
    """Makers, each with all of its runs, as (run, stands, entries)."""

    def __init__(self, makers, runs):
        self.makers, self.runs = makers, runs
        self.known = {}

    def truth(self, number, question, part, done):
        key = (number, question, part[0][:done])
        if key not in self.known:
            self.known[key] = plain.is_true(self.makers[number], question, part[0][:done], part[1][:done + 1])
        return self.known[key]

    def choices(self, log, more=()):
        """The tuples of makers of which all questions, more being pairs (seat, question), are questions."""
        asked = [(seat, question) for _, seat, _, _, question, _ in log.findings] + list(more)
        every = [range(len(self.makers)) if seat is None else [seat] for seat in log.seats]
        return [numbers for numbers in itertools.product(*every) if all(
            is_question(self.makers[numbers[seat]].program, question) for seat, question in asked)]

    def weavings(self, log, more=()):
        """All that suit, each as (makers, numbers of entries, parts)."""
        found = []
        for numbers in self.choices(log, more):
            crowd = [self.makers[number] for number in numbers]
            for parts in itertools.product(*[self.runs[number] for number in numbers]):
                if not plaincrowd.ends(crowd, [stands[-1] for _, stands, _ in parts], log.end):
                    continue
                logs = [plaincrowd.got(entries) for _, _, entries in parts]
                for order in plaincrowd.numberings([len(one) for one in logs]):
                    if self.reads(log.sheet, plaincrowd.log_of(logs, order)) and self.suits(log, numbers, parts, order):
                        found.append((numbers, order, parts))
        return found

    def reads(self, sheet, log):
        if (sheet, log) not in self.known:
            self.known[sheet, log] = tuple((len(copy), 0) for copy in sheet) in plain.spots(sheet, log)
        return self.known[sheet, log]

    def suits(self, log, numbers, parts, order):
        return not log.findings or any(True for _ in self.moments(log, numbers, parts, order))

    def moments(self, log, numbers, parts, order, item=None):
        """For each way of a weaving by which it suits: by whose run the item (copy, index) is taken."""
        start = ((0,) * len(parts), tuple((0, 0) for _ in log.sheet), frozenset(), None)
        queue, seen = [self.with_marks(log, numbers, parts, start)], set()
        while queue:
            node = queue.pop()
            if node in seen:
                continue
            seen.add(node)
            done, spot, marks, taker = node
            if done == tuple(len(run) for run, _, _ in parts) and len(marks) == len(log.findings) \
                    and spot == tuple((len(copy), 0) for copy in log.sheet):
                yield taker
            found = [(done, way, marks, taker) for way in brute.spots_passed(log.sheet, spot)]
            written = sum(len(plaincrowd.got(entries[:count])) for (_, _, entries), count in zip(parts, done))
            for seat, (run, _, entries) in enumerate(parts):
                if done[seat] == len(run):
                    continue
                later = tuple(count + (k == seat) for k, count in enumerate(done))
                entry = entries[done[seat]]
                if entry is None:
                    found.append((later, spot, marks, taker))
                elif order[written] == seat:
                    took = seat if item is not None and spot[item[0]] == (item[1], 0) else taker
                    found.extend([(later, way, marks, took) for way in brute.spots_behind(log.sheet, spot, entry)])
            queue.extend([self.with_marks(log, numbers, parts, one) for one in found])

    def with_marks(self, log, numbers, parts, node):
        done, spot, marks, taker = node
        got = [k for k, (_, seat, copy, index, question, truth) in enumerate(log.findings) if spot[copy] == (index, 0)
               and self.truth(numbers[seat], question, parts[seat], done[seat]) is truth]
        return done, spot, marks | set(got), taker

    def word(self, log, seat, question):
        truths = {self.truth(numbers[seat], question, parts[seat], len(parts[seat][0]))
                  for numbers, _, parts in self.weavings(log, [(seat, question)])}
        return plain.word(list(truths))

    def is_possible(self, log):
        return bool(self.weavings(log))

    def contradiction(self, log):
        """The numbers of the findings that are left when each is left out without which there is still none."""
        left = list(log.findings)
        for finding in log.findings:
            fewer = [other for other in left if other != finding]
            if not self.is_possible(PlainLog(log.seats, log.sheet, log.end, tuple(fewer))):
                left = fewer
        return tuple([finding[0] for finding in left])

    def makers_of(self, log, seat):
        return tuple(sorted({numbers[seat] for numbers, _, _ in self.weavings(log)}))

    def writers(self, log, copy, index):
        found = set()
        for numbers, order, parts in self.weavings(log):
            found.update(self.moments(log, numbers, parts, order, (copy, index)))
        return tuple(sorted(found))

    def least_left(self, log, seat, question, word):
        """Items, findings and end that stay when each is left out without which the word stays."""
        places = [(copy, index) for copy, one in enumerate(log.sheet) for index, item in enumerate(one) if item is not None]
        left, numbers = list(places), [finding[0] for finding in log.findings]
        end = log.end

        def is_so(left, numbers, end):
            sheet = tuple(tuple(item if (copy, index) in left else None for index, item in enumerate(one))
                          for copy, one in enumerate(log.sheet))
            findings = tuple(finding for finding in log.findings if finding[0] in numbers)
            return self.word(PlainLog(log.seats, sheet, end, findings), seat, question) == word

        for place in places:
            fewer = [other for other in left if other != place]
            if is_so(fewer, numbers, end):
                left = fewer
        for number in list(numbers):
            fewer = [other for other in numbers if other != number]
            if is_so(left, fewer, end):
                numbers = fewer
        if end is not None and is_so(left, numbers, None):
            end = None
        return tuple(left) + (() if end is None else ((len(log.sheet), 0),)), tuple(numbers)


class PlainTable:
    """The members (stands, spot, memory, marks) of a log for a tuple of makers and a question of a seat."""

    def __init__(self, makers, log, numbers, seat, question):
        self.crowd = [makers[number] for number in numbers]
        self.log = log
        self.asked = [(finding[1], finding[4]) for finding in log.findings] + [(seat, question)]

    def with_marks(self, stands, spot, memory, marks):
        found = []
        for k, (_, seat, copy, index, question, truth) in enumerate(self.log.findings):
            is_so = plainlate.is_true(self.crowd[seat], question, (stands[seat], memory[k]))
            found.append(marks[k] or (spot[copy] == (index, 0) and is_so is truth))
        return stands, spot, memory, tuple(found)

    def first(self):
        stands, spot = plaincrowd.first_pair(self.crowd, self.log.sheet)
        memory = tuple([plainlate.first(self.crowd[seat], question)[1] for seat, question in self.asked])
        return self.with_marks(stands, spot, memory, (False,) * len(self.log.findings))

    def targets(self, member):
        found = []
        for mover, step, (stands, spot) in plaincrowd.targets(self.crowd, self.log.sheet, member[:2]):
            memory = tuple([tuple([plainlate.mark_behind(self.crowd[seat], fact, mark, member[0][seat], step, stands[seat])
                                   for fact, mark in zip(plain.facts(question), marks)]) if seat == mover else marks
                            for (seat, question), marks in zip(self.asked, member[2])])
            found.append(self.with_marks(stands, spot, memory, member[3]))
        return found

    def least(self):
        return plaincrowd.least(self.first(), self.targets)

    def has_form(self, value):
        if not isinstance(value, tuple) or len(value) != 4 or not plaincrowd.is_pair(self.crowd, self.log.sheet, value[:2]):
            return False
        _, _, memory, marks = value
        if not isinstance(memory, tuple) or len(memory) != len(self.asked) or not isinstance(marks, tuple):
            return False
        if not all(plaincrowd.is_memory(question, one) for (_, question), one in zip(self.asked, memory)):
            return False
        return len(marks) == len(self.log.findings) and all(isinstance(mark, bool) for mark in marks)

    def closes(self, member):
        return all(member[3]) and plaincrowd.closes(self.crowd, self.log.sheet, member[:2], self.log.end)

    def truth(self, member):
        seat, question = self.asked[-1]
        return plainlate.is_true(self.crowd[seat], question, (member[0][seat], member[2][-1]))

    def shows(self, word, value):
        """Whether any value is a cover by which the word is right."""
        if not isinstance(value, tuple) or not all(self.has_form(member) for member in value):
            return False
        if not plaincrowd.is_ascending(value) or self.first() not in value:
            return False
        if not all(there in value for member in value for there in self.targets(member)):
            return False
        truths = {self.truth(member) for member in value if self.closes(member)}
        return truths <= {'always': {True}, 'never': {False}, 'none': set()}[word]


def shows_tables(makers, log, choices, seat, question, word, value):
    """Whether any value is tables by which the word is right."""
    if word not in ('always', 'never', 'none') or not isinstance(value, tuple) or len(value) != len(choices):
        return False
    for numbers, pair in zip(choices, value):
        if not isinstance(pair, tuple) or len(pair) != 2 or repr(pair[0]) != repr(numbers):
            return False
        if not PlainTable(makers, log, numbers, seat, question).shows(word, pair[1]):
            return False
    return True
