"""Heights: numbers of the pairs of a cover, which show that none is better."""

from loggedruns.covers import are_members, is_ascending
from loggedruns.fields import closing, counts
from loggedruns.words import is_tuple_of, is_whole

DEAD = -1


def told_heights(heights):
    """A dict of heights as an ascending tuple of (stand, spot, height)."""
    return tuple(sorted([(*pair, height) for pair, height in heights.items()]))


def heights_of(field, value):
    """The dict of heights that any value tells, None if it is no ascending tuple of them."""
    if not isinstance(value, tuple) or not all([is_tuple_of(member, 3) for member in value]):
        return None
    if not all([is_whole(member[2]) for member in value]):
        return None
    pairs = tuple([member[:2] for member in value])
    # Ascending pairs are ascending members, and none of them stands twice.
    if not are_members(field, pairs) or not is_ascending(pairs):
        return None
    return {member[:2]: member[2] for member in value}


def are_least(field, value, number, line):
    """Whether any value is heights by which in no run that fits fewer links count."""
    heights = heights_of(field, value)
    if heights is None or heights.get(field.first(), 1) > 0:
        return False
    for pair, height in heights.items():
        for step, _, target in field.links(pair):
            rise = 1 if counts(pair, step, line) else 0
            if target not in heights or heights[target] > height + rise:
                return False
    return all([heights[pair] >= number for pair in closing(field, heights)])


def are_greatest(field, value, number, line):
    """Whether any value is heights by which in no run that fits more links count."""
    heights = heights_of(field, value)
    if heights is None or heights.get(field.first(), DEAD) < 0 or any([heights[pair] < DEAD for pair in heights]):
        return False
    for pair, height in heights.items():
        for step, _, target in field.links(pair):
            if target not in heights:
                return False
            rise = 1 if counts(pair, step, line) else 0
            if heights[target] > DEAD and (height == DEAD or heights[target] < height + rise):
                return False
    return all([DEAD < heights[pair] <= number for pair in closing(field, heights)])
