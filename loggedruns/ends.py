"""The sets of nodes that all runs with one log have at their ends."""

from loggedruns.alikes import Alikes


class Ends:
    """The sets of a walk; nodes have numbers here, a set is the ascending tuple of its nodes' numbers."""

    def __init__(self, walk):
        self.alikes = Alikes(walk)

    def first(self):
        """The set of the runs whose log is empty."""
        return self.quiet([self.alikes.number_of(self.alikes.walk.first())])

    def quiet(self, numbers):
        """The set of these nodes and all to which steps by which the log gets nothing lead from them."""
        queue = list(numbers)
        found = {}
        while queue:
            one = queue.pop()
            if one not in found:
                found[one] = True
                queue.extend([there for _, entry, there in self.alikes.moves(one) if entry is None])
        return tuple(sorted(found))

    def after_entries(self, numbers):
        """For each entry that the log can get from a set, ascending, the set behind it."""
        found = {}
        for one in numbers:
            for _, entry, there in self.alikes.moves(one):
                if entry is not None:
                    found.setdefault(entry, {})[there] = True
        return {entry: self.quiet(list(found[entry])) for entry in sorted(found)}

    def has_over(self, numbers):
        """Whether some run that ends in this set can do no further step."""
        return any([self.alikes.is_over(one) for one in numbers])

    def word_of(self, numbers):
        """Of how many runs that end in this set the question is true."""
        truths = [self.alikes.is_true(one) for one in numbers]
        if all(truths):
            return "always"
        return "sometimes" if any(truths) else "never"

    # As a field: its members are sets.

    def links(self, numbers):
        """Where a set leads, each as (entry, set), ascending by entries."""
        return list(self.after_entries(numbers).items())
