"""Loggedruns: what a log surely tells of the runs that wrote it."""
