"""Choices of things that have prices."""

from loggedruns.words import is_between

MOST_THINGS = 5
MOST_PRICE = 99


def is_many(value):
    """Whether any value is a tuple of as many things as can be chosen from."""
    return isinstance(value, tuple) and 1 <= len(value) <= MOST_THINGS


def is_price(value):
    """Whether any value is a price."""
    return is_between(value, 1, MOST_PRICE)


def priced(things, prices):
    """All choices of ascending things, as (price, tuple), ascending."""
    found = [(0, ())]
    for thing, price in zip(things, prices):
        found.extend([(cost + price, (*chosen, thing)) for cost, chosen in list(found)])
    return sorted(found)


def choices(things, prices):
    """All choices of ascending things, as tuples, the cheapest first, of those as dear the least one first."""
    return [chosen for _, chosen in priced(things, prices)]
