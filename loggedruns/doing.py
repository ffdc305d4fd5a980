"""What each row does, and when it can be done."""

from loggedruns.scenes import Scene
from loggedruns.shown import entry_of, makes_entry

MOST_CALLS = 2

# The rows that give their cell a value.
GIVERS = ("set", "add", "ask")


def worth_of(row, cells):
    """The value that a row names: of a cell, or a number."""
    return row.number if row.source is None else cells[row.source]


def worth_given(row, cells, value):
    """What a set, add or ask would give its cell; value is what an ask gives."""
    if row.kind == "ask":
        return value
    return cells[row.target] + row.number if row.kind == "add" else worth_of(row, cells)


def can_have(program, cell, worth):
    """Whether a cell can have a value."""
    return 0 <= worth <= program.tops[cell]


def do_give_worth(scene, hand, row, value):
    """A set, add or ask: its cell gets a value, if it can have it."""
    worth = worth_given(row, scene.cells, value)
    if can_have(scene.maker.program, row.target, worth):
        scene.cells[row.target] = worth
        scene.go(hand, row.behind)
    else:
        scene.fault(hand, "range")


def do_take(scene, hand, row):
    if scene.locks[row.target] == hand:
        scene.fault(hand, "twice")
    else:
        scene.locks[row.target] = hand
        scene.go(hand, row.behind)


def do_give(scene, hand, row):
    if scene.locks[row.target] == hand:
        scene.locks[row.target] = -1
        scene.go(hand, row.behind)
    else:
        scene.fault(hand, "lack")


def do_start(scene, hand, row):
    scene.start(row.target)
    scene.go(hand, row.behind)


def do_call(scene, hand, row):
    place = scene.hands[hand]
    if len(place) > MOST_CALLS:
        scene.fault(hand, "deep")
    else:
        scene.hands[hand] = (*place, row.target)


def do_fail(scene, hand, row):
    scene.fault(hand, row.words[0])


def do_stop(scene, hand, row):
    scene.hands[hand] = ()


def do_choice(scene, hand, row):
    """An if or a while."""
    scene.go(hand, row.inside if holds(row, scene.cells) else row.aside)


def do_nothing(scene, hand, row):
    scene.go(hand, row.behind)


def holds(row, cells):
    """Whether the condition of an if or a while holds."""
    here, there = cells[row.target], worth_of(row, cells)
    if row.sign == "=":
        return here == there
    if row.sign == "!=":
        return here != there
    return here < there if row.sign == "<" else here > there


# Those of GIVERS and log stand apart: an ask takes a value, a log row gives an entry.
DEEDS = {
    "take": do_take,
    "give": do_give,
    "start": do_start,
    "join": do_nothing,
    "call": do_call,
    "fail": do_fail,
    "flush": do_nothing,
    "stop": do_stop,
    "if": do_choice,
    "while": do_choice,
}


def do_log(scene, hand, row):
    """A log row: what the log gets by it at once."""
    scene.go(hand, row.behind)
    if not makes_entry(scene.maker, row):
        return None
    return scene.record(hand, entry_of(scene.maker, hand, row, scene.cells))


def do_row(scene, hand, value):
    """The hand does its next row: what the log gets by it at once."""
    row = scene.maker.program.rows[scene.hands[hand][-1]]
    if row.kind == "log":
        return do_log(scene, hand, row)
    if row.kind in GIVERS:
        do_give_worth(scene, hand, row, value)
    else:
        deed = DEEDS[row.kind]
        deed(scene, hand, row)
    return None


def can_do(maker, stand, hand, row):
    """Whether a hand can do its next row now."""
    hands, _, locks, boxes = stand[:4]
    if row.kind == "take":
        return locks[row.target] in (-1, hand)
    if row.kind in ("start", "join"):
        return hands[row.target] == ()
    if row.kind == "flush":
        return boxes[hand] == ()
    size = maker.program.box
    return size == 0 or not makes_entry(maker, row) or len(boxes[hand]) < size


def row_steps(maker, stand, hand):
    """The steps by which a hand does its next row."""
    place = stand[0][hand]
    if place == ():
        return []
    row = maker.program.rows[place[-1]]
    if row.kind == "ask":
        return [("do", hand, value) for value in range(maker.program.tops[row.target] + 1)]
    return [("do", hand, None)] if can_do(maker, stand, hand, row) else []


def steps_from(maker, stand):
    """The steps that can be done, ascending."""
    hands, _, _, boxes, _, falls, fallen = stand
    if fallen:
        return [("again",)] if falls < maker.program.again else []
    done = [step for hand in range(len(hands)) for step in row_steps(maker, stand, hand)]
    return done + [("write", hand) for hand in range(len(hands)) if boxes[hand] != ()]


def step_done(maker, stand, step):
    """The stand behind a step that can be done, and what the log gets by it."""
    scene = Scene(maker, stand)
    entry = None
    if step[0] == "do":
        entry = do_row(scene, step[1], step[2])
    elif step[0] == "write":
        entry = scene.write(step[1])
    else:
        scene.begin_anew()
    return (scene.stand(), entry)
