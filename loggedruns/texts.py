"""Items, questions and runs as texts, and read back."""

from loggedruns.claims import JOINERS, LENGTHS, MOST_AROUND, MOST_FACTS, facts_in
from loggedruns.errors import BadShown
from loggedruns.spots import is_item
from loggedruns.words import is_name

DIGITS = "0123456789"
MOST_DIGITS = 3

# How the parts of a fact are written: names, hands and labels that may be None, numbers.
FACTS = {
    "did": ("name", "number"),
    "ahead": ("name", "name"),
    "asked": ("name", "number"),
    "was": ("name", "number"),
    "is": ("name", "number"),
    "by": ("name", "none"),
    "at": ("name", "none"),
    "fell": ("number",),
    "spilt": ("name", "number"),
    "ended": ("name",),
}

# All that reads a text returns what it found in a list, an empty one for a text that is none.


def number_in(word):
    """The number that a word tells."""
    if not 1 <= len(word) <= MOST_DIGITS or not all([sign in DIGITS for sign in word]):
        return []
    return [] if word[0] == "0" and word != "0" else [int(word)]


def name_in(word, none):
    """The name that a word is, or None for the word none."""
    if word == none:
        return [None]
    return [word] if is_name(word) else []


def show_value(worth):
    return "?" if worth is None else str(worth)


def value_in(word):
    """The value as read that a word tells."""
    return [None] if word == "?" else number_in(word)


def show_values(values):
    if values is None:
        return "*"
    return ",".join([show_value(worth) for worth in values]) if values else "-"


def values_in(word):
    """The values as read that a word tells."""
    if word in ("*", "-"):
        return [None] if word == "*" else [()]
    found = [value_in(part) for part in word.split(",")]
    return [] if [] in found else [tuple([one[0] for one in found])]


def show_item(item):
    """The text of an item."""
    if not isinstance(item, tuple):
        return f"gap {show_value(item)}"
    hand, word, values = item
    return " ".join(["-" if hand is None else hand, "?" if word is None else word, show_values(values)])


def item_in(text):
    """The item that a text tells."""
    words = text.split(" ")
    found = []
    if len(words) == 2 and words[0] == "gap":
        found = value_in(words[1])
    if len(words) == 3:
        parts = [name_in(words[0], "-"), name_in(words[1], "?"), values_in(words[2])]
        found = [] if [] in parts else [tuple([part[0] for part in parts])]
    return found if found and is_item(found[0]) else []


def show_items(items):
    """The text of items, in any number."""
    return " / ".join([show_item(item) for item in items]) if items else "-"


def items_in(text):
    """The items that a text tells."""
    if text == "-":
        return [()]
    found = [item_in(part) for part in text.split(" / ")]
    return [] if [] in found else [tuple([one[0] for one in found])]


def show_question(question):
    """The text of a question."""
    if question[0] == "not":
        return f"not {show_question(question[1])}"
    if question[0] in JOINERS:
        return " ".join([question[0], str(len(question) - 1), *[show_question(part) for part in question[1:]]])
    return " ".join([question[0], *["-" if part is None else str(part) for part in question[1:]]])


def question_in(text):
    """The question that a text tells, by its form alone."""
    words = text.split(" ")
    found = question_at(words, 0, 0)
    if not found or found[1] != len(words) or len(facts_in(found[0])) > MOST_FACTS:
        return []
    return found[:1]


def question_at(words, at, around):
    """The question that begins with the word at a place, within so many others, and the place behind it."""
    kind = words[at] if at < len(words) else ""
    if kind in FACTS:
        return fact_at(words, at)
    if around > MOST_AROUND:
        return []
    if kind == "not":
        return joined_at(words, at, 1, at + 1, around)
    many = number_in(words[at + 1]) if kind in JOINERS and at + 1 < len(words) else []
    # So many questions have a fact each.
    if not many or not 2 <= many[0] <= MOST_FACTS:
        return []
    return joined_at(words, at, many[0], at + 2, around)


def joined_at(words, at, many, start, around):
    """The question of the word at a place and so many questions from start on, and the place behind it."""
    parts = [words[at]]
    for _ in range(many):
        found = question_at(words, start, around + 1)
        if not found:
            return []
        part, start = found
        parts.append(part)
    return [tuple(parts), start]


def fact_at(words, at):
    """The fact that begins with the word at a place, and the place behind it."""
    kind = words[at]
    behind = at + LENGTHS[kind]
    found = [part_in(form, word) for form, word in zip(FACTS[kind], words[at + 1:behind])]
    if behind > len(words) or [] in found:
        return []
    return [(kind, *[one[0] for one in found]), behind]


def part_in(form, word):
    """The part of a fact that a word tells."""
    if form == "number":
        return number_in(word)
    return name_in(word, "-" if form == "none" else None)


def show_step(step):
    return " ".join([str(part) for part in step if part is not None])


def step_in(text):
    """The step that a text tells, by its form alone."""
    words = text.split(" ")
    kind = words[0]
    numbers = [number_in(word) for word in words[1:]]
    if [] in numbers or len(numbers) > 2:
        return []
    parts = [number[0] for number in numbers]
    if kind == "do" and len(parts) > 0:
        return [("do", parts[0], parts[1] if len(parts) == 2 else None)]
    if len(parts) == (1 if kind == "write" else 0) and kind in ("write", "again"):
        return [(kind, *parts)]
    return []


def show_run(run):
    """The text of a run."""
    return "; ".join([show_step(step) for step in run]) if run else "-"


def run_in(text):
    """The run that a text tells, by its form alone."""
    if text == "-":
        return [()]
    found = [step_in(part) for part in text.split("; ")]
    return [] if [] in found else [tuple([one[0] for one in found])]


def the_one(found, text):
    """What was found in a text; raises BadShown if that is nothing."""
    if not found:
        raise BadShown(text)
    return found[0]


def read_item(text):
    """The item that any value tells as a text."""
    return the_one(item_in(text) if isinstance(text, str) else [], text)


def read_items(text):
    """The items that any value tells as a text."""
    return the_one(items_in(text) if isinstance(text, str) else [], text)


def read_question(text):
    """The question that any value tells as a text, by its form alone."""
    return the_one(question_in(text) if isinstance(text, str) else [], text)


def read_run(text):
    """The run that any value tells as a text, by its form alone."""
    return the_one(run_in(text) if isinstance(text, str) else [], text)
