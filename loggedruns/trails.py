"""Where a run comes to, and what the log gets on the way."""


class Trail:
    """The nodes that a run comes to, one more than its steps, and what the log gets by each step."""

    def __init__(self, nodes, got):
        self.nodes = nodes
        self.got = got

    def last(self):
        """The node behind all steps."""
        return self.nodes[-1]

    def log(self, first, last=None):
        """The entries that the log gets behind first steps, up to the last ones."""
        return [entry for entry in self.got[first:last] if entry is not None]
