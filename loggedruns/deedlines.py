"""Lines of journals: how deeds are written, and read back."""

from loggedruns.errors import BadRecorder
from loggedruns.makers import Recorder
from loggedruns.spots import is_entry_read
from loggedruns.texts import item_in, items_in, number_in, question_in, show_item, show_items, show_question

ENDS = {"over": "over", "open": "open", "any": None}
TRUTHS = {"yes": True, "no": False}
MOST_SEATS = 2

# What reads a text returns what it found in a list, an empty one for a text that is none.

# The parts of a line behind its word. The last one may have several words, all others have one.
DEEDS = {
    "revise": ("number", "number", "revision"),
    "log": ("seats",),
    "add": ("number", "both"),
    "beside": ("number", "items"),
    "fill": ("number", "number", "number", "items"),
    "mend": ("number", "number", "number", "entry"),
    "finish": ("number", "end"),
    "tie": ("number", "number", "items"),
    "note": ("number", "number", "number", "number", "truth", "question"),
    "drop": ("number",),
    "undo": (),
    "redo": (),
}


def show_recorder(recorder):
    """The text of a recorder."""
    return f"{recorder.level} {recorder.every} {show_truth(recorder.names)}"


def recorder_in(text):
    """The recorder that a text tells."""
    words = text.split(" ")
    if len(words) != 3:
        return []
    parts = [number_in(words[0]), number_in(words[1]), truth_in(words[2])]
    if [] in parts:
        return []
    try:
        return [Recorder(level=parts[0][0], every=parts[1][0], names=parts[2][0])]
    except BadRecorder:
        return []


def show_revision(revision):
    """The text of (recorder or None, lines)."""
    recorder, lines = revision
    text = "-" if recorder is None else show_recorder(recorder)
    return " ".join([text, "".join(["|" + line for line in lines])]) if lines else text


def revision_in(text):
    """What (recorder or None, lines) a text tells."""
    told, sign, rest = text.partition(" |")
    found = [None] if told == "-" else recorder_in(told)
    return [(found[0], tuple(rest.split("|")) if sign else ())] if found else []


def show_seats(seats):
    return " ".join(["?" if seat is None else str(seat) for seat in seats])


def seats_in(text):
    """The seats that a text tells."""
    words = text.split(" ")
    found = [[None] if word == "?" else number_in(word) for word in words]
    return [] if [] in found or len(words) > MOST_SEATS else [tuple([seat[0] for seat in found])]


def show_both(both):
    """The text of (item, second), second having one item or none."""
    item, second = both
    return " // ".join([show_item(one) for one in (item, *second)])


def both_in(text):
    """What (item, second) a text tells."""
    found = [item_in(part) for part in text.split(" // ")]
    return [] if [] in found or len(found) > 2 else [(found[0][0], tuple([one[0] for one in found[1:]]))]


def entry_in(text):
    """The entry as read that a text tells."""
    found = item_in(text)
    return found if found and is_entry_read(found[0]) else []


def show_end(end):
    return "any" if end is None else end


def end_in(text):
    return [ENDS[text]] if text in ENDS else []


def show_truth(truth):
    return "yes" if truth else "no"


def truth_in(text):
    return [TRUTHS[text]] if text in TRUTHS else []


def show_number(number):
    return str(number)


SHOWN = {
    "number": show_number,
    "revision": show_revision,
    "seats": show_seats,
    "both": show_both,
    "end": show_end,
    "truth": show_truth,
}

FOUND = {
    "revision": revision_in,
    "seats": seats_in,
    "both": both_in,
    "entry": entry_in,
    "end": end_in,
    "truth": truth_in,
}


def shown_part(form, part):
    """The text of a part of a line."""
    if form in SHOWN:
        show = SHOWN[form]
        return show(part)
    if form == "question":
        return show_question(part)
    return show_items(part) if form == "items" else show_item(part)


def part_in(form, text):
    """The part of this form that a text tells."""
    if form in FOUND:
        find = FOUND[form]
        return find(text)
    if form == "number":
        return number_in(text)
    return question_in(text) if form == "question" else items_in(text)


def line_of(word, parts):
    """The line of a deed."""
    return " ".join([word, *[shown_part(form, part) for form, part in zip(DEEDS[word], parts)]])


def first_line(maker):
    """The first line of a journal."""
    return "book " + show_revision((maker.recorder, maker.program.text.split("\n")))


def parts_in(forms, words):
    """The parts of these forms that words tell, as a tuple."""
    if not forms or len(words) < len(forms):
        return [()] if not forms and not words else []
    last = len(forms) - 1
    found = [part_in(form, text) for form, text in zip(forms, [*words[:last], " ".join(words[last:])])]
    return [] if [] in found else [tuple([part[0] for part in found])]


def deed_in(line):
    """The (word, parts) of the deed that a line tells."""
    words = line.split(" ")
    if "\n" in line or words[0] not in DEEDS:
        return []
    return [(words[0], parts) for parts in parts_in(DEEDS[words[0]], words[1:])]


def book_in(line):
    """The (recorder, text of the program) that the first line of a journal tells."""
    word, _, rest = line.partition(" ")
    found = revision_in(rest) if word == "book" and "\n" not in line else []
    return [(recorder, "\n".join(lines)) for recorder, lines in found if recorder is not None and lines]
