"""The front of price and lateness: the choices of changes than which no other one is better."""

from loggedruns.changes import changed
from loggedruns.choices import check_offers
from loggedruns.lateness import check_lasting, late, shows_late
from loggedruns.prices import priced
from loggedruns.words import is_same, is_tuple_of

# The lateness of a question that is never surely sure.
NEVER = 9999


def priced_choices(maker, question, offers):
    """All choices of offered changes, as (price, choice), ascending; question and offers may be any values."""
    check_lasting(maker.program, question)
    check_offers(maker.program, offers)
    return priced([change for change, _ in offers], [price for _, price in offers])


def lateness_of(result):
    """The number by which a result of late is compared."""
    return result[1] if result[0] == "held" else NEVER


def best(points):
    """Those of (price, lateness, choice) than which no other one is better; they come ascending by price."""
    found = []
    for price, lateness, choice in sorted(points):
        # All that stand ahead cost no more; of those as dear and as late the lesser tuple came first.
        if not found or lateness < found[-1][1]:
            found.append((price, lateness, choice))
    return tuple(found)


def front(maker, question, offers):
    """(points, results): the best choices with their prices and latenesses, and how late all of them are."""
    found = priced_choices(maker, question, offers)
    results = [late(changed(maker, choice), question) for _, choice in found]
    points = best([(price, lateness_of(result), choice) for (price, choice), result in zip(found, results)])
    return (points, tuple([(choice, result) for (_, choice), result in zip(found, results)]))


def shows_front(maker, question, offers, value):
    """Whether any value is (points, results) as front tells them."""
    found = priced_choices(maker, question, offers)
    if not is_tuple_of(value, 2) or not is_tuple_of(value[1], len(found)):
        return False
    points, results = value
    for (_, choice), result in zip(found, results):
        if not is_tuple_of(result, 2) or not is_same(result[0], choice):
            return False
        if not is_sharp(result[1]) or not shows_late(changed(maker, choice), question, result[1]):
            return False
    latest = [lateness_of(result) for _, result in results]
    return is_same(points, best([(price, number, choice) for (price, choice), number in zip(found, latest)]))


def is_sharp(result):
    """Whether any value, if it is a held number above 0, has the pair that shows that no lesser one holds."""
    return not is_tuple_of(result, 4) or result[0] != "held" or result[1] == 0 or result[3] is not None
