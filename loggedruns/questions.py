"""Questions: what can be asked of a run, and whether it is true of it."""

from loggedruns.claims import check_question, facts_in, is_claim
from loggedruns.errors import BadRun
from loggedruns.recalls import Recall
from loggedruns.walks import Walk, followed


def is_question(program, value):
    """Whether any value is a question of a program."""
    return is_claim(program, value)


def facts(question):
    """The facts of a question, in the sequence in which they stand in it."""
    return tuple(facts_in(question))


def judge(maker, question, run):
    """Whether a question is true of a run."""
    check_question(maker.program, question)
    walk = Walk(maker, Recall(maker, question))
    trail = followed(walk, walk.first(), run)
    if trail is None:
        raise BadRun(run)
    return walk.truth(trail.last())
