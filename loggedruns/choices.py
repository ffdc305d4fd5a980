"""Which changes of a maker, the cheapest ones, settle a question."""

from loggedruns.changes import are_changes, changed
from loggedruns.claims import check_question
from loggedruns.errors import BadOffers
from loggedruns.prices import choices, is_many, is_price
from loggedruns.settling import settled, shows_settled
from loggedruns.words import is_same, is_tuple_of


def are_offers(program, value):
    """Whether any value is an ascending tuple of pairs (change, price), the changes such as can be made together."""
    if not is_many(value) or not all([is_tuple_of(offer, 2) and is_price(offer[1]) for offer in value]):
        return False
    # The changes are unlike, so that the pairs ascend just if these do.
    return are_changes(program, tuple([change for change, _ in value]))


def check_offers(program, offers):
    """Raises BadOffers for any value that is none."""
    if not are_offers(program, offers):
        raise BadOffers(offers)


def offered(maker, question, offers):
    """All choices of offered changes, the cheapest first; question and offers may be any values."""
    check_question(maker.program, question)
    check_offers(maker.program, offers)
    return choices([change for change, _ in offers], [price for _, price in offers])


def cheapest(maker, question, offers):
    """(choice, table, reasons): the cheapest changes that settle the question, and what shows it."""
    reasons = []
    for choice in offered(maker, question, offers):
        word, *shown = settled(changed(maker, choice), question)
        if word == "settled":
            return (choice, shown[0], tuple(reasons))
        reasons.append((choice, *shown))
    return (None, None, tuple(reasons))


def shows_cheapest(maker, question, offers, value):
    """Whether any value is (choice, table, reasons) as cheapest tells them."""
    found = offered(maker, question, offers)
    if not is_tuple_of(value, 3):
        return False
    choice, table, reasons = value
    if not isinstance(reasons, tuple) or len(reasons) > len(found):
        return False
    if not all([is_reason(maker, question, found[k], reasons[k]) for k in range(len(reasons))]):
        return False
    if len(reasons) == len(found):
        return choice is None and table is None
    least = found[len(reasons)]
    return is_same(choice, least) and shows_settled(changed(maker, least), question, ("settled", table))


def is_reason(maker, question, choice, value):
    """Whether any value is (choice, one, other): this choice, and two runs by which it is not enough."""
    if not is_tuple_of(value, 3) or not is_same(value[0], choice):
        return False
    return shows_settled(changed(maker, choice), question, ("open", value[1], value[2]))
