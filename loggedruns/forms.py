"""Which values are stands of a maker, by their form."""

from loggedruns.shown import all_entries, hand_name
from loggedruns.words import is_between, is_tuple_of, is_whole

MOST_LINES = 3


class Forms:
    """The forms of a maker's stands; its entries are worked out once for all of them."""

    def __init__(self, maker):
        self.maker = maker
        self.entries = {entry: True for entry in all_entries(maker)}

    def is_stand(self, value):
        """Whether any value is a stand by its form."""
        if not is_tuple_of(value, 7):
            return False
        hands, cells, locks, boxes, count, falls, fallen = value
        if not (self.are_places(hands) and self.are_cells(cells) and self.are_locks(locks)):
            return False
        if not (self.are_boxes(boxes) and self.are_numbers(count, falls)):
            return False
        return isinstance(fallen, bool) and (not fallen or is_fallen(hands, locks, boxes))

    def are_places(self, value):
        hands = self.maker.program.hands
        if not is_tuple_of(value, len(hands)):
            return False
        return all([self.is_place(hands[k], value[k]) for k in range(len(hands))])

    def is_place(self, hand, value):
        """Whether any value is a place of the hand with this name."""
        if not isinstance(value, tuple) or len(value) > MOST_LINES:
            return False
        rows = self.maker.program.rows
        owner = hand
        for k in range(len(value)):
            if not is_whole(value[k]) or value[k] not in rows:
                return False
            row = rows[value[k]]
            if row.owner != owner or row.kind == "try":
                return False
            if k + 1 < len(value):
                if row.kind != "call":
                    return False
                owner = row.words[0]
        return True

    def are_cells(self, value):
        tops = self.maker.program.tops
        if not is_tuple_of(value, len(tops)):
            return False
        return all([is_between(value[k], 0, tops[k]) for k in range(len(tops))])

    def are_locks(self, value):
        program = self.maker.program
        if not is_tuple_of(value, len(program.locks)):
            return False
        return all([is_between(lock, -1, len(program.hands) - 1) for lock in value])

    def are_boxes(self, value):
        hands = self.maker.program.hands
        if not is_tuple_of(value, len(hands)):
            return False
        return all([self.is_box(hand, value[hand]) for hand in range(len(hands))])

    def is_box(self, hand, value):
        """Whether any value can be in the box of the hand with this number."""
        if not isinstance(value, tuple) or len(value) > self.maker.program.box:
            return False
        return all([self.is_entry(hand, entry) for entry in value])

    def is_entry(self, hand, value):
        """Whether any value is an entry that the hand with this number can make."""
        return self.is_made(value) and value[0] == hand_name(self.maker, hand)

    def is_made(self, value):
        """Whether any value is an entry that the maker can make."""
        if not is_tuple_of(value, 3):
            return False
        name, word, values = value
        if name is not None and not isinstance(name, str):
            return False
        if not isinstance(word, str) or not isinstance(values, tuple):
            return False
        if not all([is_whole(worth) for worth in values]):
            return False
        return value in self.entries

    def are_numbers(self, count, falls):
        """Whether two values are a count and how often it began anew."""
        most = max(self.maker.recorder.every - 1, 0)
        return is_between(count, 0, most) and is_between(falls, 0, self.maker.program.again)


def is_fallen(hands, locks, boxes):
    """Whether these parts of a stand are as a fall leaves them."""
    if any([place != () for place in hands]) or any([box != () for box in boxes]):
        return False
    return all([lock == -1 for lock in locks])
