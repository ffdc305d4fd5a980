"""What one step did, as facts ask for it."""

from loggedruns.doing import GIVERS, can_have, worth_given


def line_done(stand, step):
    """The line of the row that a step does, also if that is a fault; None if it does none."""
    return stand[0][step[1]][-1] if step[0] == "do" else None


def cell_given(program, stand, step):
    """The number of the cell that got a value by a step, None without one."""
    line = line_done(stand, step)
    if line is None or program.rows[line].kind not in GIVERS:
        return None
    row = program.rows[line]
    return row.target if can_have(program, row.target, worth_given(row, stand[1], step[2])) else None


class Deed:
    """What a step from a stand did, behind being the stand that it led to."""

    def __init__(self, program, stand, step, behind):
        self.done = line_done(stand, step)
        self.value = step[2] if step[0] == "do" else None
        self.given = cell_given(program, stand, step)
        self.cells = behind[1]
        self.fell = behind[6]
        # A fall is a step that does a row: what is in the boxes ahead of it is all that is spilt.
        self.spilt = [entry[1] for box in stand[3] for entry in box] if self.fell else []
        # The cells that begin anew with the program.
        many = len(program.cells) if step[0] == "again" else 0
        self.fresh = [cell for cell in range(many) if not program.kept[cell]]
