"""A stand that is being changed by one step."""


class Scene:
    """The parts of a stand, to be changed; only the step that made the scene sees it."""

    def __init__(self, maker, stand):
        hands, cells, locks, boxes, count, falls, fallen = stand
        self.maker = maker
        self.hands = list(hands)
        self.cells = list(cells)
        self.locks = list(locks)
        self.boxes = list(boxes)
        self.count = count
        self.falls = falls
        self.fallen = fallen

    def stand(self):
        """The stand as it is now."""
        return (tuple(self.hands), tuple(self.cells), tuple(self.locks), tuple(self.boxes),
                self.count, self.falls, self.fallen)

    def go(self, hand, line):
        """The hand goes to a line of the body it is in, or with None behind its end."""
        place = self.hands[hand]
        rows = self.maker.program.rows
        while line is None and len(place) > 1:
            place = place[:-1]
            line = rows[place[-1]].behind
        self.hands[hand] = () if line is None else (*place[:-1], line)

    def fault(self, hand, word):
        """A fault in the row that is next: to the innermost catch that takes it, if any does."""
        place = self.hands[hand]
        rows = self.maker.program.rows
        while place != ():
            for taken, line in rows[place[-1]].nets:
                if taken is None or taken == word:
                    self.hands[hand] = (*place[:-1], line)
                    return
            place = place[:-1]
        self.fall()

    def fall(self):
        self.hands = [()] * len(self.hands)
        self.locks = [-1] * len(self.locks)
        self.boxes = [()] * len(self.boxes)
        self.fallen = True

    def begin_anew(self):
        program = self.maker.program
        self.start(0)
        self.cells = [self.cells[k] if program.kept[k] else 0 for k in range(len(self.cells))]
        self.falls += 1
        self.fallen = False

    def start(self, hand):
        """The hand at its first row."""
        program = self.maker.program
        self.hands[hand] = (program.entrances[program.hands[hand]],)

    def record(self, hand, entry):
        """What the log gets by a new entry at once: it, or None if it is boxed or dropped."""
        if self.maker.program.box == 0:
            return self.written(entry)
        self.boxes[hand] = (*self.boxes[hand], entry)
        return None

    def write(self, hand):
        """What the log gets by the eldest entry of a box: it, or None if it is dropped."""
        entry = self.boxes[hand][0]
        self.boxes[hand] = self.boxes[hand][1:]
        return self.written(entry)

    def written(self, entry):
        every = self.maker.recorder.every
        if every == 0:
            return entry
        self.count = (self.count + 1) % every
        return None if self.count == 0 else entry
