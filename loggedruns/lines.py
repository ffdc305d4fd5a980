"""How one line of a program reads by itself: depth, label, kind and words."""

from loggedruns.words import is_name

DIGITS = ("0", "1", "2", "3")

# The words that a form lets; of the forms that are not here, has_form tells.
CHOICES = {
    "few": ("0", "1", "2"),
    "some": ("1", "2", "3"),
    "shift": ("-3", "-2", "-1", "1", "2", "3"),
    "sign": ("=", "!=", "<", ">"),
}

HEADS = {
    "cell": ("cell", "some"),
    "keep": ("cell", "some"),
    "lock": ("lock",),
    "box": ("few",),
    "again": ("few",),
    "hand": ("hand",),
    "part": ("part",),
}

# What stands in a body: all that is a row, else and catch.
ROWS = {
    "set": ("cell", "worth"),
    "add": ("cell", "shift"),
    "ask": ("cell",),
    "log": ("some", "word", "shown", "shown"),
    "take": ("lock",),
    "give": ("lock",),
    "start": ("hand",),
    "join": ("hand",),
    "call": ("part",),
    "fail": ("word",),
    "flush": (),
    "stop": (),
    "if": ("cell", "sign", "worth"),
    "while": ("cell", "sign", "worth"),
    "try": (),
    "else": (),
    "catch": ("word",),
}

# How many words there are at least, where some may be left out.
LEAST_WORDS = {"log": 2, "catch": 0}

UNLABELLED = ("try", "else", "catch")


class Line:
    """A line with the form of a head (depth 0) or of what stands in a body."""

    def __init__(self, at, depth, label, words):
        self.at = at
        self.depth = depth
        self.label = label
        self.kind = words[0]
        self.words = tuple(words[1:])


def has_form(word, form):
    """Whether a word has a form; those of the kinds of names are all alike."""
    if form in CHOICES:
        return word in CHOICES[form]
    if form == "worth":
        return word in DIGITS or is_name(word)
    if form == "shown":
        name, dot, mode = word.partition(".")
        return is_name(name) and (dot == "" or mode in ("odd", "some"))
    return is_name(word)


def have_forms(words, forms, least):
    """Whether words have these forms, at least so many of them."""
    if not least <= len(words) <= len(forms):
        return False
    return all([has_form(word, form) for word, form in zip(words, forms)])


def read_line(at, text):
    """The line with this number; None if it has no form."""
    bare = text.lstrip(" ")
    blanks = len(text) - len(bare)
    words = bare.split(" ")
    if blanks == 0:
        return read_head(at, words)
    if blanks % 2 == 1:
        return None
    return read_row(at, blanks // 2, words)


def read_head(at, words):
    """A line without blanks in front."""
    kind = words[0]
    if kind not in HEADS or not have_forms(words[1:], HEADS[kind], len(HEADS[kind])):
        return None
    return Line(at, 0, None, words)


def read_row(at, depth, words):
    """A line with blanks in front, perhaps with a label."""
    label = None
    if words[0].endswith(":") and len(words) > 1:
        label = words[0][:-1]
        words = words[1:]
        if not is_name(label) or words[0] in UNLABELLED:
            return None
    kind = words[0]
    if kind not in ROWS or not have_forms(words[1:], ROWS[kind], LEAST_WORDS.get(kind, len(ROWS[kind]))):
        return None
    return Line(at, depth, label, words)
