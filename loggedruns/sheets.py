"""Sheets: what is there of a log, and which runs fit it."""

from loggedruns.errors import BadEnd, BadSheet
from loggedruns.spots import MOST_COPIES, first_spot, is_copy, is_read, passes, taken
from loggedruns.stands import state, trail_of


def is_sheet(value):
    """Whether any value is a sheet."""
    return isinstance(value, tuple) and 1 <= len(value) <= MOST_COPIES and all([is_copy(copy) for copy in value])


def check_sheet(sheet):
    """Raises BadSheet for any value that is none."""
    if not is_sheet(sheet):
        raise BadSheet(sheet)


def check_end(end):
    """Raises BadEnd for any value that is none."""
    if end is not None and end not in ("over", "open"):
        raise BadEnd(end)


def brief(sheet):
    """A sheet that just the same runs fit, with fewer gaps None: so there are far fewer spots."""
    merged = [tuple([copy[k] for k in range(len(copy)) if k == 0 or copy[k] is not None or copy[k - 1] is not None])
              for copy in sheet]
    return tuple([copy for copy in merged if copy != (None,)]) or ((None,),)


def ends_so(maker, stand, end):
    """Whether a run with this last stand is as the end asks."""
    return end is None or (state(maker, stand) == "open") == (end == "open")


def with_passes(sheet, spots):
    """These spots and all to which passes lead from them, each once."""
    queue = list(spots)
    found = {}
    while queue:
        spot = queue.pop()
        if spot not in found:
            found[spot] = True
            queue.extend(passes(sheet, spot))
    return list(found)


def reads(sheet, spot, log):
    """Whether a log can be taken from a spot until all copies are read."""
    return any([is_read(sheet, way) for way in spots_behind(sheet, [spot], log)])


def spots_behind(sheet, spots, log):
    """The spots to which the entries of a log lead from these, each once."""
    spots = with_passes(sheet, spots)
    for entry in log:
        coming = [taken(sheet, spot, entry) for spot in spots]
        spots = with_passes(sheet, [spot for spot in coming if spot is not None])
    return spots


def is_fit(maker, sheet, stand, log, end):
    """Whether a run with this stand behind it and this log fits."""
    return ends_so(maker, stand, end) and reads(sheet, first_spot(sheet), log)


def fits(maker, sheet, run, *, end=None):
    """Whether a run fits a sheet."""
    check_sheet(sheet)
    trail = trail_of(maker, run)
    check_end(end)
    return is_fit(maker, sheet, trail.last(), trail.log(0), end)
