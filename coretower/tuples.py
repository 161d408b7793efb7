"""Tuples: they are never changed, only made anew."""


def changed(row, at, worth):
    """A tuple with this at a place instead."""
    return row[:at] + (worth,) + row[at + 1:]
