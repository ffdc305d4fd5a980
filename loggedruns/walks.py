"""Runs that remember: nodes (stand, memory), and the steps between them."""

from loggedruns.deeds import Deed
from loggedruns.doing import step_done, steps_from
from loggedruns.recalls import Recalls
from loggedruns.stands import first_stand, traced
from loggedruns.trails import Trail


class Walk:
    """The nodes of a maker with a recall; what can be done at a stand is worked out once."""

    def __init__(self, maker, recall):
        self.maker = maker
        self.recall = recall
        self.known = {}

    def first(self):
        """The node at which all runs begin."""
        return (first_stand(self.maker), self.recall.first())

    def moves(self, stand):
        """The steps from a stand, each as (step, entry, stand behind it, deed)."""
        if stand not in self.known:
            found = []
            for step in steps_from(self.maker, stand):
                behind, entry = step_done(self.maker, stand, step)
                found.append((step, entry, behind, Deed(self.maker.program, stand, step, behind)))
            self.known[stand] = found
        return self.known[stand]

    def links(self, node):
        """Where the steps from a node lead, each as (step, entry, node)."""
        stand, memory = node
        return [(step, entry, (behind, self.recall.learnt(memory, deed)))
                for step, entry, behind, deed in self.moves(stand)]

    def is_over(self, node):
        """Whether runs with this node can do no further step."""
        return not self.moves(node[0])

    def truth(self, node):
        """Whether the question is true of runs with this node."""
        stand, memory = node
        return self.recall.truth(stand, memory)


def bare_walk(maker):
    """A walk that remembers nothing."""
    return Walk(maker, Recalls(maker, []))


def followed(walk, node, run):
    """The trail of nodes of any value that is a run from this node on, None of other ones."""
    trail = traced(walk.maker, node[0], run)
    if trail is None:
        return None
    nodes = [node]
    for k in range(len(run)):
        deed = Deed(walk.maker.program, trail.nodes[k], run[k], trail.nodes[k + 1])
        nodes.append((trail.nodes[k + 1], walk.recall.learnt(nodes[k][1], deed)))
    return Trail(nodes, trail.got)
