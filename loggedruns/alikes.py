"""Alike runs, two at a time: pairs of numbers of nodes, and pairs with an age."""

from loggedruns.forms import Forms
from loggedruns.words import is_tuple_of

# So many members may the least table of pairs have.
LIMIT = 4000


class Alikes:
    """Pairs of nodes that two runs of a walk can come to by the same entries; nodes have numbers here."""

    def __init__(self, walk):
        self.walk = walk
        self.numbers = {}
        self.nodes = []
        self.known = {}
        self.truths = {}

    def number_of(self, node):
        """The number of a node."""
        if node not in self.numbers:
            self.numbers[node] = len(self.nodes)
            self.nodes.append(node)
        return self.numbers[node]

    def moves(self, one):
        """The steps from a node, each as (step, entry, number of the node behind it)."""
        if one not in self.known:
            links = self.walk.links(self.nodes[one])
            self.known[one] = [(step, entry, self.number_of(node)) for step, entry, node in links]
        return self.known[one]

    def links(self, pair):
        """Where a pair leads, each as (weight, step, step, pair): the weight is 1 if both logs get an entry."""
        one, other = pair
        found = [(0, step, None, (there, other)) for step, entry, there in self.moves(one) if entry is None]
        for step, entry, there in self.moves(other):
            if entry is None:
                found.append((0, None, step, (one, there)))
            else:
                found.extend([(1, first, step, (behind, there)) for first, got, behind in self.moves(one)
                              if got == entry])
        return found

    def is_over(self, one):
        """Whether runs with this node can do no further step."""
        return not self.moves(one)

    def is_true(self, one):
        """Whether the question is true of runs with this node."""
        if one not in self.truths:
            self.truths[one] = self.walk.truth(self.nodes[one])
        return self.truths[one]

    def are_over(self, one, other):
        """Whether two runs with these nodes can do no further step."""
        return self.is_over(one) and self.is_over(other)

    def told(self, pair):
        """A pair as (stand, memory, stand, memory)."""
        return (*self.nodes[pair[0]], *self.nodes[pair[1]])

    def numbers_of(self, value, many):
        """For each member of any value the numbers of its nodes, with what stands behind them; None if it is no
        tuple of tuples with so many parts, the first four being stands and memories by their forms."""
        if not isinstance(value, tuple) or not all([is_tuple_of(member, many) for member in value]):
            return None
        forms = Forms(self.walk.maker)
        for member in value:
            for stand, memory in (member[:2], member[2:4]):
                if not forms.is_stand(stand) or not self.walk.recall.is_memory(memory):
                    return None
        return [(self.number_of(member[:2]), self.number_of(member[2:4]), *member[4:]) for member in value]


def sides(links):
    """The steps that links of pairs have for the first run, and those for the other one."""
    return [tuple([link[side] for link in links if link[side] is not None]) for side in (1, 2)]
