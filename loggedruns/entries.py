"""Entries and logs."""

from loggedruns.shown import all_entries
from loggedruns.stands import trail_of


def log_of(maker, run):
    """The entries that the log of a run gets, in sequence."""
    return tuple(trail_of(maker, run).log(0))


def entries(maker):
    """The ascending tuple of all entries that log rows can make by their form."""
    return all_entries(maker)
