"""What parts two states of a watcher."""


def partings_of(words, moves):
    """For each two states (state, state, log), a log behind which their words are unlike, or that just one can read.

    Each of the moves is {entry: state}; no two of the states are alike.
    """
    many = len(words)
    pairs = [(one, other) for one in range(many) for other in range(one + 1, many)]
    found = {}
    for one, other in pairs:
        log = parted_at_once(words, moves, one, other)
        if log is not None:
            found[(one, other)] = log
    back = turned_pairs(moves, pairs)
    queue = list(found)
    at = 0
    while at < len(queue):
        pair = queue[at]
        at += 1
        for ahead, entry in back[pair]:
            if ahead not in found:
                found[ahead] = (entry, *found[pair])
                queue.append(ahead)
    return tuple([(*pair, found[pair]) for pair in pairs])


def parted_at_once(words, moves, one, other):
    """A log of no entry or one that parts two states, None without one."""
    if words[one] != words[other]:
        return ()
    alone = [entry for entry in moves[one] if entry not in moves[other]]
    alone.extend([entry for entry in moves[other] if entry not in moves[one]])
    return (alone[0],) if alone else None


def turned_pairs(moves, pairs):
    """For each of the pairs of states those, with the entry, from which one entry leads to it."""
    found = {pair: [] for pair in pairs}
    for one, other in pairs:
        for entry in moves[one]:
            if entry in moves[other] and moves[one][entry] != moves[other][entry]:
                low, high = sorted([moves[one][entry], moves[other][entry]])
                found[(low, high)].append(((one, other), entry))
    return found
