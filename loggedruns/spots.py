"""Items of copies, and the spots up to which copies have been read."""

from loggedruns.words import is_between, is_name, is_tuple_of, is_whole

MOST_COPIES = 2
MOST_ITEMS = 12
MOST_VALUES = 2
MOST_GAP = 9
MOST_WORTH = 3


def is_gap(item):
    """Whether an item is a gap of so many entries."""
    return is_whole(item)


def is_entry_read(item):
    """Whether an item is an entry as read."""
    return isinstance(item, tuple)


def is_item(value):
    """Whether any value is an item."""
    if value is None or is_between(value, 1, MOST_GAP):
        return True
    if not is_tuple_of(value, 3):
        return False
    hand, word, values = value
    if (hand is not None and not is_name(hand)) or (word is not None and not is_name(word)):
        return False
    return values is None or are_values(values)


def are_values(value):
    """Whether any value is a tuple of values as read."""
    if not isinstance(value, tuple) or len(value) > MOST_VALUES:
        return False
    return all([worth is None or is_between(worth, 0, MOST_WORTH) for worth in value])


def is_copy(value):
    """Whether any value is a copy."""
    return isinstance(value, tuple) and len(value) <= MOST_ITEMS and all([is_item(item) for item in value])


def first_spot(sheet):
    """The spot at which nothing has been read."""
    return ((0, 0),) * len(sheet)


def is_read(sheet, spot):
    """Whether all copies are read at a spot."""
    return all([spot[k][0] == len(sheet[k]) for k in range(len(sheet))])


def is_like(item, entry):
    """Whether an entry fits an entry as read."""
    hand, word, values = item
    if (hand is not None and hand != entry[0]) or (word is not None and word != entry[1]):
        return False
    if values is None:
        return True
    if len(values) != len(entry[2]):
        return False
    return all([read is None or read == worth for read, worth in zip(values, entry[2])])


def behind_entry(copy, spot, entry):
    """The spot of a copy behind an entry, None if it cannot be taken."""
    index, part = spot
    if index == len(copy):
        return None
    item = copy[index]
    if item is None:
        return spot
    if is_gap(item):
        return (index + 1, 0) if part + 1 == item else (index, part + 1)
    return (index + 1, 0) if is_like(item, entry) else None


def taken(sheet, spot, entry):
    """The spot behind an entry that all copies take, None if one cannot."""
    spots = [behind_entry(sheet[k], spot[k], entry) for k in range(len(sheet))]
    return None if any([one is None for one in spots]) else tuple(spots)


def passes(sheet, spot):
    """The spots to which one copy can pass."""
    found = []
    for k in range(len(sheet)):
        index, _ = spot[k]
        if index < len(sheet[k]) and sheet[k][index] is None:
            found.append((*spot[:k], (index + 1, 0), *spot[k + 1:]))
    return found


def is_spot(sheet, value):
    """Whether any value is a spot of a sheet, by its form."""
    if not is_tuple_of(value, len(sheet)):
        return False
    return all([is_copy_spot(sheet[k], value[k]) for k in range(len(sheet))])


def is_copy_spot(copy, value):
    """Whether any value is a spot of a copy: within an integer gap some entries may have been read."""
    if not is_tuple_of(value, 2):
        return False
    index, part = value
    if not is_between(index, 0, len(copy)):
        return False
    inside = index < len(copy) and is_gap(copy[index])
    return is_between(part, 0, copy[index] - 1 if inside else 0)
