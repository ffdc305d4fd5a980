"""Deeds of a book that are told by lines."""


def do_revise(book, parts):
    first, last, (recorder, lines) = parts
    return book.revise(first, last, lines, recorder=recorder)


def do_log(book, parts):
    return book.begin_log(parts[0])


def do_add(book, parts):
    log, (item, second) = parts
    return book.add(log, item, second=second)


def do_beside(book, parts):
    return book.beside(parts[0], parts[1])


def do_fill(book, parts):
    log, copy, index, items = parts
    return book.fill(log, copy, index, items)


def do_mend(book, parts):
    log, copy, index, entry = parts
    return book.mend(log, copy, index, entry)


def do_finish(book, parts):
    return book.finish(parts[0], parts[1])


def do_tie(book, parts):
    log, other, items = parts
    return book.tie(log, other, items)


def do_note(book, parts):
    log, seat, copy, index, truth, question = parts
    return book.note(log, seat, copy, index, question, truth)


def do_drop(book, parts):
    return book.drop(parts[0])


def do_undo(book, parts):
    return book.undo()


def do_redo(book, parts):
    return book.redo()


COMMANDS = {
    "revise": do_revise,
    "log": do_log,
    "add": do_add,
    "beside": do_beside,
    "fill": do_fill,
    "mend": do_mend,
    "finish": do_finish,
    "tie": do_tie,
    "note": do_note,
    "drop": do_drop,
    "undo": do_undo,
    "redo": do_redo,
}


def do_deed(book, word, parts):
    """Does a deed; returns the number that it returns, None without one."""
    command = COMMANDS[word]
    return command(book, parts)
