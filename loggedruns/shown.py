"""Entries by their form: what log rows can make."""


def shown_value(cells, shown):
    """What a shown value (cell, mode) tells."""
    cell, mode = shown
    if mode == "odd":
        return cells[cell] % 2
    if mode == "some":
        return 1 if cells[cell] > 0 else 0
    return cells[cell]


def hand_name(maker, hand):
    """The name that entries of a hand have, None if names are not kept."""
    return maker.program.hands[hand] if maker.recorder.names else None


def makes_entry(maker, row):
    """Whether a row is a log row whose level the recorder keeps."""
    return row.kind == "log" and row.level >= maker.recorder.level


def entry_of(maker, hand, row, cells):
    """The entry that a hand makes by a log row."""
    values = tuple([shown_value(cells, shown) for shown in row.shown])
    return (hand_name(maker, hand), row.words[1], values)


def all_cells(tops):
    """All states of cells with these greatest values."""
    found = [()]
    for top in tops:
        found = [(*cells, worth) for cells in found for worth in range(top + 1)]
    return found


def all_entries(maker):
    """The ascending tuple of all entries that log rows can make by their form."""
    program = maker.program
    states = all_cells(program.tops)
    found = {}
    for hand in range(len(program.hands)):
        owners = (program.hands[hand], *program.parts)
        for row in program.rows.values():
            if row.owner in owners and makes_entry(maker, row):
                for cells in states:
                    found[entry_of(maker, hand, row, cells)] = True
    return tuple(sorted(found))
