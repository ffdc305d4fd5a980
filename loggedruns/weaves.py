"""Fields of crowds: members (stands, spot, memories, marks), which tell of all weavings that fit."""

from loggedruns.covers import is_ascending, is_closed
from loggedruns.forms import Forms
from loggedruns.spots import first_spot, is_read, is_spot, passes, taken
from loggedruns.stands import first_stand
from loggedruns.words import is_tuple_of


class Weave:
    """The members of a crowd and a sheet.

    Each of walks tells the steps of one run. Each of minds is (seat, recall): what is remembered of this run.
    Each of marks is (copy, index, truth): the mind of the same number gets its mark where the copy's spot is
    (index, 0), and its question has this truth; there may be further minds without a mark.
    With only, (copy, index, seat), the item there is taken by entries of this run alone.
    """

    def __init__(self, walks, sheet, end, minds=(), marks=(), only=None):
        self.walks = walks
        self.sheet = sheet
        self.end = end
        self.minds = minds
        self.marks = marks
        self.only = only

    def first(self):
        """The member at which all weavings begin."""
        stands = tuple([first_stand(walk.maker) for walk in self.walks])
        memories = tuple([recall.first() for _, recall in self.minds])
        return self.marked(stands, first_spot(self.sheet), memories, (False,) * len(self.marks))

    def marked(self, stands, spot, memories, seen):
        """The member with the marks that it had ahead, and those that it gets."""
        if not all(seen):
            seen = tuple([seen[k] or self.gets_mark(k, stands, spot, memories) for k in range(len(seen))])
        return (stands, spot, memories, seen)

    def gets_mark(self, number, stands, spot, memories):
        """Whether this mark is got here."""
        copy, index, truth = self.marks[number]
        return spot[copy] == (index, 0) and self.truth_of(number, stands, memories) == truth

    def truth_of(self, number, stands, memories):
        """Whether the question of the mind with this number is true."""
        seat, recall = self.minds[number]
        return recall.truth(stands[seat], memories[number])

    def truth(self, member):
        """Whether the question of the last mind is true of weavings that have come to this member."""
        return self.truth_of(len(self.minds) - 1, member[0], member[2])

    def learnt(self, memories, seat, deed):
        """The memories behind a deed of one run."""
        return tuple([recall.learnt(memory, deed) if mind == seat else memory
                      for (mind, recall), memory in zip(self.minds, memories)])

    def way_behind(self, seat, spot, entry):
        """The spot behind what the log gets by one run, which may be None; None if it cannot be taken."""
        if entry is None:
            return spot
        if self.only is not None:
            copy, index, number = self.only
            if spot[copy] == (index, 0) and seat != number:
                return None
        return taken(self.sheet, spot, entry)

    def links(self, member):
        """Where a member leads, each as (seat, step, entry, member): of a pass all but the member is None."""
        stands, spot, memories, seen = member
        found = [(None, None, None, self.marked(stands, way, memories, seen)) for way in passes(self.sheet, spot)]
        for seat, walk in enumerate(self.walks):
            for step, entry, behind, deed in walk.moves(stands[seat]):
                way = self.way_behind(seat, spot, entry)
                if way is not None:
                    others = (*stands[:seat], behind, *stands[seat + 1:])
                    found.append((seat, step, entry, self.marked(others, way, self.learnt(memories, seat, deed), seen)))
        return found

    def closes(self, member):
        """Whether a weaving that has come to this member fits as it is."""
        stands, spot, _, seen = member
        return all(seen) and is_read(self.sheet, spot) and self.ends_so(stands)

    def ends_so(self, stands):
        """Whether the runs with these last stands are as the end asks; all are over, or it is open."""
        if self.end is None:
            return True
        return all([not walk.moves(stand) for walk, stand in zip(self.walks, stands)]) == (self.end == "over")

    def told(self, member):
        """A member as it is told."""
        return member

    def heard(self, forms, value):
        """The member that any value tells, None of one that is none by its form; forms are those of the makers."""
        return self.whole(forms, value)

    def whole(self, forms, value):
        """Any value that is a member by its form, None of other ones."""
        if not is_tuple_of(value, 4) or not is_tuple_of(value[2], len(self.minds)):
            return None
        stands, spot, memories, seen = value
        if not self.are_stands(forms, stands) or not is_spot(self.sheet, spot):
            return None
        if not all([recall.is_memory(memory) for (_, recall), memory in zip(self.minds, memories)]):
            return None
        if not is_tuple_of(seen, len(self.marks)) or not all([isinstance(mark, bool) for mark in seen]):
            return None
        return value

    def are_stands(self, forms, value):
        """Whether any value is a tuple of stands of the makers by their forms."""
        return is_tuple_of(value, len(forms)) and all([form.is_stand(stand) for form, stand in zip(forms, value)])


class PairWeave(Weave):
    """The members of a crowd without memories, told as (stands, spot)."""

    def told(self, member):
        """A member as it is told."""
        return member[:2]

    def heard(self, forms, value):
        """The member that any value tells, None of one that is none by its form."""
        return self.whole(forms, (*value, (), ())) if is_tuple_of(value, 2) else None


class MindedWeave(Weave):
    """The members of a crowd with one memory and without marks, told as (stands, spot, memory)."""

    def told(self, member):
        """A member as it is told."""
        return (*member[:2], member[2][0])

    def heard(self, forms, value):
        """The member that any value tells, None of one that is none by its form."""
        return self.whole(forms, (*value[:2], (value[2],), ())) if is_tuple_of(value, 3) else None


def told_table(field, table):
    """A table as it is told."""
    return tuple(sorted([field.told(member) for member in table]))


def heard_cover(field, value):
    """The members of any value that is a cover of a field, in a dict; None of other ones."""
    if not isinstance(value, tuple):
        return None
    forms = [Forms(walk.maker) for walk in field.walks]
    members = [field.heard(forms, member) for member in value]
    if None in members or not is_ascending(value):
        return None
    found = {member: True for member in members}
    return found if is_closed(field, found, [field.first()]) else None


def woven_by(links, many):
    """The weaving of so many runs that links make."""
    runs = tuple([tuple([link[1] for link in links if link[0] == seat]) for seat in range(many)])
    return (runs, tuple([link[0] for link in links if link[2] is not None]))
