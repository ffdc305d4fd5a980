"""Entries and logs."""

from loggedruns.shown import all_entries
from loggedruns.stands import led_and_log


def log_of(maker, run):
    """The entries that the log of a run gets, in sequence."""
    _, log = led_and_log(maker, run)
    return tuple(log)


def entries(maker):
    """The ascending tuple of all entries that log rows can make by their form."""
    return all_entries(maker)
