"""Stands of makers, the steps between them, and runs."""

from loggedruns.doing import step_done, steps_from
from loggedruns.errors import BadRun, NoStep
from loggedruns.forms import Forms
from loggedruns.trails import Trail


def first_stand(maker):
    """The stand at which all runs begin."""
    program = maker.program
    many = len(program.hands)
    place = (program.entrances[program.hands[0]],)
    hands = (place,) + ((),) * (many - 1)
    cells = (0,) * len(program.cells)
    locks = (-1,) * len(program.locks)
    return (hands, cells, locks, ((),) * many, 0, 0, False)


def steps(maker, stand):
    """The ascending tuple of the steps that can be done."""
    return tuple(steps_from(maker, stand))


def is_among(value, found):
    """Whether any value is one of these steps: True is not 1, and a list no tuple."""
    if not isinstance(value, tuple) or any([isinstance(part, bool) for part in value]):
        return False
    return value in found


def after(maker, stand, step):
    """The stand behind a step, and the entry that the log gets by it, None without one."""
    if not is_among(step, steps_from(maker, stand)):
        raise NoStep(step)
    return step_done(maker, stand, step)


def is_stand(maker, value):
    """Whether any value is a stand by its form."""
    return Forms(maker).is_stand(value)


def traced(maker, stand, run):
    """The trail of any value that is a run from this stand on, None of other ones."""
    if not isinstance(run, tuple):
        return None
    trail = Trail([stand], [])
    for step in run:
        if not is_among(step, steps_from(maker, trail.last())):
            return None
        behind, entry = step_done(maker, trail.last(), step)
        trail.nodes.append(behind)
        trail.got.append(entry)
    return trail


def trail_of(maker, run):
    """The trail of a run from the first stand on."""
    trail = traced(maker, first_stand(maker), run)
    if trail is None:
        raise BadRun(run)
    return trail


def led(maker, run):
    """The stand behind a run."""
    return trail_of(maker, run).last()


def state(maker, stand):
    """Whether something can be done; if not, how it ended."""
    if steps_from(maker, stand):
        return "open"
    if stand[6]:
        return "fallen"
    return "done" if all([place == () for place in stand[0]]) else "stuck"
