"""Facts and questions by their forms."""

from loggedruns.doing import GIVERS
from loggedruns.errors import BadQuestion
from loggedruns.words import is_between

MOST_FACTS = 4
MOST_AROUND = 3
MOST_TIMES = 3
JOINERS = ("and", "or")
ENDINGS = ("done", "fallen", "stuck", "open")

# Of these facts each one stays true once it is true.
LASTING = ("did", "ahead", "asked", "was", "fell", "spilt")

LENGTHS = {
    "did": 3,
    "ahead": 3,
    "asked": 3,
    "was": 3,
    "is": 3,
    "by": 3,
    "at": 3,
    "fell": 2,
    "spilt": 3,
    "ended": 2,
}


def is_label(program, value):
    """Whether any value is a label of the program."""
    return isinstance(value, str) and value in program.lines_of


def row_at(program, label):
    """The row with a label."""
    return program.rows[program.lines_of[label]]


def is_times(value):
    """Whether any value is a number of times that a fact can ask for."""
    return is_between(value, 1, MOST_TIMES)


def is_did(program, fact):
    return is_label(program, fact[1]) and is_times(fact[2])


def is_ahead(program, fact):
    return is_label(program, fact[1]) and is_label(program, fact[2])


def is_asked(program, fact):
    if not is_label(program, fact[1]):
        return False
    row = row_at(program, fact[1])
    return row.kind == "ask" and is_between(fact[2], 0, program.tops[row.target])


def is_worth(program, fact):
    """A fact about a value of a cell: was or is."""
    if fact[1] not in program.cells:
        return False
    return is_between(fact[2], 0, program.tops[program.cells.index(fact[1])])


def is_by(program, fact):
    if fact[1] not in program.cells:
        return False
    if fact[2] is None:
        return True
    if not is_label(program, fact[2]):
        return False
    row = row_at(program, fact[2])
    return row.kind in GIVERS and row.target == program.cells.index(fact[1])


def is_at(program, fact):
    if fact[1] not in program.hands:
        return False
    if fact[2] is None:
        return True
    return is_label(program, fact[2]) and row_at(program, fact[2]).owner in (fact[1], *program.parts)


def is_fell(program, fact):
    return is_times(fact[1])


def is_spilt(program, fact):
    words = [row.words[1] for row in program.rows.values() if row.kind == "log"]
    return fact[1] in words and is_times(fact[2])


def is_ended(program, fact):
    return fact[1] in ENDINGS


CHECKS = {
    "did": is_did,
    "ahead": is_ahead,
    "asked": is_asked,
    "was": is_worth,
    "is": is_worth,
    "by": is_by,
    "at": is_at,
    "fell": is_fell,
    "spilt": is_spilt,
    "ended": is_ended,
}


def count_facts(program, value, around):
    """How many facts any value has as a question within so many nots, ands and ors, 0 if it is none."""
    if not isinstance(value, tuple) or len(value) < 2 or not isinstance(value[0], str):
        return 0
    word = value[0]
    if word in LENGTHS:
        check = CHECKS[word]
        return 1 if len(value) == LENGTHS[word] and check(program, value) else 0
    if around > MOST_AROUND or not is_joined(word, len(value) - 1):
        return 0
    counts = [count_facts(program, part, around + 1) for part in value[1:]]
    return 0 if 0 in counts else sum(counts)


def is_joined(word, many):
    """Whether this word joins so many questions to one."""
    return many == 1 if word == "not" else word in JOINERS and many > 1


def is_claim(program, value):
    """Whether any value is a question of a program."""
    return 1 <= count_facts(program, value, 0) <= MOST_FACTS


def check_question(program, question):
    """Raises BadQuestion for any value that is none."""
    if not is_claim(program, question):
        raise BadQuestion(question)


def facts_in(question):
    """The facts of a question, in sequence."""
    if question[0] in LENGTHS:
        return [question]
    return [fact for part in question[1:] for fact in facts_in(part)]


def is_lasting(question):
    """Whether a question, once true, stays true."""
    if question[0] in LENGTHS:
        return question[0] in LASTING
    return question[0] != "not" and all([is_lasting(part) for part in question[1:]])


def holds(question, truths):
    """Whether a question is true; truths are those of its facts, in sequence: a fact may stand in it twice."""
    if question[0] in LENGTHS:
        return truths[0]
    parts, at = [], 0
    for part in question[1:]:
        many = len(facts_in(part))
        parts.append(holds(part, truths[at:at + many]))
        at += many
    if question[0] == "not":
        return not parts[0]
    return all(parts) if question[0] == "and" else any(parts)
