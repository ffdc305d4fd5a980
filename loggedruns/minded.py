"""Fields with memories: members (stand, spot, memory), which tell of each run that fits what is true of it."""

from loggedruns.claims import check_question
from loggedruns.fields import Growth
from loggedruns.recalls import Recall
from loggedruns.sheets import check_end, check_sheet, ends_so, is_fit
from loggedruns.spots import first_spot, is_read, is_spot, passes, taken
from loggedruns.walks import Walk, followed
from loggedruns.words import is_tuple_of


class MindedField:
    """The members of a walk and a sheet."""

    def __init__(self, walk, sheet, end):
        self.maker = walk.maker
        self.walk = walk
        self.sheet = sheet
        self.end = end

    def first(self):
        """The member at which all runs begin."""
        stand, memory = self.walk.first()
        return (stand, first_spot(self.sheet), memory)

    def links(self, member):
        """Where a member leads, each as (step, entry, member): of a pass the step is None."""
        stand, spot, memory = member
        found = [(None, None, (stand, way, memory)) for way in passes(self.sheet, spot)]
        for step, entry, (behind, learnt) in self.walk.links((stand, memory)):
            way = spot if entry is None else taken(self.sheet, spot, entry)
            if way is not None:
                found.append((step, entry, (behind, way, learnt)))
        return found

    def closes(self, member):
        """Whether a run that has come to this member fits as it is."""
        return is_read(self.sheet, member[1]) and ends_so(self.maker, member[0], self.end)

    def is_member(self, forms, value):
        """Whether any value is a member by its form."""
        if not is_tuple_of(value, 3) or not forms.is_stand(value[0]):
            return False
        return is_spot(self.sheet, value[1]) and self.walk.recall.is_memory(value[2])

    def truth(self, member):
        """What is true of runs that have come to this member."""
        return self.walk.truth((member[0], member[2]))

    def truth_of(self, run):
        """What is true of any value that is a run that fits, None of other ones."""
        trail = followed(self.walk, self.walk.first(), run)
        if trail is None or not is_fit(self.maker, self.sheet, trail.last()[0], trail.log(0), self.end):
            return None
        return self.walk.truth(trail.last())


def minded_field(maker, sheet, question, end):
    """The field of a sheet, a question and an end, which may be any values."""
    check_sheet(sheet)
    check_question(maker.program, question)
    check_end(end)
    return MindedField(Walk(maker, Recall(maker, question)), sheet, end)


def is_sure(field, truth):
    """Whether this is what is true of all runs that fit."""
    growth = Growth(field, [field.first()])
    while not growth.is_grown():
        member = growth.grow()
        if field.closes(member) and field.truth(member) != truth:
            return False
    return True
