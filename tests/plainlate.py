"""The document's words about lateness and settled questions, told again as plainly as can be, to compare with."""

from loggedruns.stands import after, first_stand, steps
from tests import plain


def mark_behind(made, fact, mark, stand, step, behind):
    """The part of a memory for a fact behind a step."""
    word, line, program = fact[0], plain.line_done(stand, step), made.program
    if word == 'did':
        return min(fact[2], mark + (line == program.line(fact[1])))
    if word == 'ahead':
        return mark or (1 if line == program.line(fact[1]) else 2 if line == program.line(fact[2]) else 0)
    if word == 'asked':
        return int(mark or (line == program.line(fact[1]) and step[2] == fact[2]))
    if word == 'was':
        return int(mark or behind[1][program.cells.index(fact[1])] == fact[2])
    fell = behind[6] and not stand[6]
    if word == 'fell':
        return min(fact[1], mark + fell)
    if word == 'spilt':
        return min(fact[2], mark + fell * len([1 for box in stand[3] for entry in box if entry[1] == fact[1]]))
    if word == 'by':
        if step[0] == 'again' and f'\nkeep {fact[1]} ' not in '\n' + program.text:
            return int(fact[2] is None)
        if plain.cell_given(made, stand, step) == fact[1]:
            return int(fact[2] is not None and line == program.line(fact[2]))
        return mark
    return 0


def is_so(made, fact, mark, stand):
    if fact[0] in ('did', 'fell', 'spilt'):
        return mark == fact[-1]
    if fact[0] in ('ahead', 'asked', 'was', 'by'):
        return mark == 1
    return plain.is_so(made, fact, (), (stand,))


def is_true(made, question, node):
    """Whether a question is true of runs with this (stand, memory); a fact may stand in it twice."""
    truths = [is_so(made, fact, mark, node[0]) for fact, mark in zip(plain.facts(question), node[1])]

    def holds(part):
        if part[0] == 'not':
            return not holds(part[1])
        if part[0] in ('and', 'or'):
            return (all if part[0] == 'and' else any)([holds(one) for one in part[1:]])
        return truths.pop(0)

    return holds(question)


def first(made, question):
    stand = first_stand(made)
    return stand, plain.memory(made, question, (), (stand,))


class Nodes:
    """The (stand, memory) of a maker with what can be done there, each worked out once."""

    def __init__(self, made, question):
        self.made, self.question, self.known, self.rounds = made, question, {}, {}

    def moves(self, node):
        if node not in self.known:
            stand, memory = node
            self.known[node] = []
            for step in steps(self.made, stand):
                behind, entry = after(self.made, stand, step)
                marks = tuple([mark_behind(self.made, fact, mark, stand, step, behind)
                               for fact, mark in zip(plain.facts(self.question), memory)])
                self.known[node].append((step, entry, (behind, marks)))
        return self.known[node]

    def is_over(self, node):
        return not self.moves(node)

    def is_true(self, node):
        return is_true(self.made, self.question, node)

    def has_round(self, node):
        """Whether some steps by which the log gets nothing lead from a node back to it."""
        if node not in self.rounds:
            seen, queue = set(), [node]
            while queue:
                for _, entry, target in self.moves(queue.pop()):
                    if entry is None and target not in seen:
                        seen.add(target)
                        queue.append(target)
            self.rounds[node] = node in seen
        return self.rounds[node]

    def pairs(self, one, other):
        """Where two runs lead, each as (whether both logs get an entry, node, node)."""
        found = [(False, target, other) for _, entry, target in self.moves(one) if entry is None]
        found += [(False, one, target) for _, entry, target in self.moves(other) if entry is None]
        return found + [(True, target, there) for _, entry, target in self.moves(one) if entry is not None
                        for _, got, there in self.moves(other) if got == entry]

    def is_apart(self, one, other):
        return self.is_true(one) and not self.is_true(other)

    def is_late_table(self, most, value, starts):
        """Whether members of the right forms are a late table that holds most."""
        if list(value) != sorted(set(value)) or not all(0 <= member[4] <= most for member in value):
            return False
        members = set(value)
        if not all((*one, *other, 0) in members for one in starts for other in starts):
            return False
        for *nodes, age in value:
            one, other = tuple(nodes[:2]), tuple(nodes[2:])
            for both, first_node, second in self.pairs(one, other):
                older = min(age + 1, most) if both and self.is_true(one) else age
                if (*first_node, *second, older) not in members:
                    return False
            if self.is_apart(one, other):
                if age == most or self.is_over(one) and self.is_over(other):
                    return False
                if self.has_round(one) and not self.is_over(other):
                    return False
        return True

    def is_settling(self, value):
        """Whether members of the right forms show that the question is settled."""
        if list(value) != sorted(set(value)) or first(self.made, self.question) * 2 not in value:
            return False
        members = set(value)
        for member in value:
            one, other = member[:2], member[2:]
            if not all((*there, *else_there) in members for _, there, else_there in self.pairs(one, other)):
                return False
            if self.is_over(one) and self.is_over(other) and self.is_true(one) != self.is_true(other):
                return False
        return True

    def trail(self, run, node=None):
        """The nodes that a run comes to, and what the log gets by each step; None if it is none."""
        nodes, got = [node or first(self.made, self.question)], []
        for step in run:
            found = [(entry, target) for known, entry, target in self.moves(nodes[-1]) if known == step]
            if not found:
                return None
            got.append(found[0][0])
            nodes.append(found[0][1])
        return nodes, got

    def is_silent(self, one, number, other, begins=(None, None)):
        """Whether two runs, from these nodes on, show that the question is never told."""
        (nodes, got), (others, had) = self.trail(one, begins[0]), self.trail(other, begins[1])
        if written(got) != written(had) or written(got[number:]) or not self.is_apart(nodes[number], others[-1]):
            return False
        over = [self.is_over(nodes[-1]), self.is_over(others[-1])]
        if number == len(one):
            return over == [True, True]
        return over == [False, False] and nodes[number] == nodes[-1]

    def is_ever(self, one, number, other, start, begins=(None, None)):
        """Whether two runs, from these nodes on, show that any number of entries can come before it is told."""
        (nodes, got), (others, had) = self.trail(one, begins[0]), self.trail(other, begins[1])
        if written(got) != written(had) or written(got[:number]) != written(had[:start]):
            return False
        if not written(got[number:]) or not written(had[start:]) or not self.is_apart(nodes[number], others[-1]):
            return False
        return nodes[number] == nodes[-1] and others[start] == others[-1]

    def is_late_pair(self, number, one, other, begins=(None, None)):
        """Whether two runs are alike, the first so late, of the other one of which the question is not true."""
        (nodes, got), (others, had) = self.trail(one, begins[0]), self.trail(other, begins[1])
        if written(got) != written(had) or self.is_true(others[-1]):
            return False
        true = [k for k, node in enumerate(nodes) if self.is_true(node)]
        return bool(true) and len(written(got[true[0]:])) >= number


def written(got):
    return [entry for entry in got if entry is not None]


def lateness(made, question, runs, begins=None):
    """("silent",) or ("held", n) of a maker all runs of which are given, as (run, stands, entries); with begins those
    runs that begin with one of these go on."""
    found = []
    for run, stands, got in runs:
        over = not steps(made, stands[-1])
        for k in range(len(run) + 1 if begins is not None else 1):
            if begins is None or run[:k] in begins:
                late = plain.how_late(made, question, run, stands, got, k)
                found.append((tuple(written(got[k:])), over, late))
    alike = [(over, other_over, late, other) for log, over, late in found for more, other_over, other in found
             if log == more and late is not None and other is None]
    if any(over and other_over for over, other_over, _, _ in alike):
        return ('silent',)
    return ('held', max([late + 1 for _, _, late, _ in alike], default=0))
