"""Traces: visible deeds that were seen, and whether a table can have answered so."""

from coretower.chances import Chances
from coretower.errors import BadTrace
from coretower.kinds import is_deed, is_visible
from coretower.orders import Orders

MOST_DEEDS = 24


def order_of(table, trace):
    """An order of the trace for the table; None if it does not fit."""
    check_trace(table, trace)
    orders = Orders(table, trace)
    for length in orders.lengths():
        order = orders.least(length)
        if order is not None:
            return order
    return None


def orders_of(table, trace):
    """All orders of the trace for the table, by length, those of equal length ascending."""
    check_trace(table, trace)
    orders = Orders(table, trace)
    for length in orders.lengths():
        order = orders.least(length)
        while order is not None:
            yield list(order)
            order = orders.next_after(order)


def breaks(table, trace):
    """None if the trace fits the table; otherwise the index of the first deed with which it does not."""
    check_trace(table, trace)
    chances = Chances(table)
    for at, deed in enumerate(trace):
        chances.see(deed)
        if chances.are_gone():
            return at
    return None


def answers(table, trace, caller):
    """The ascending list of the numbers that the open call of a caller can return next."""
    check_trace(table, trace)
    chances = Chances(table)
    for deed in trace:
        chances.see(deed)
    return chances.answers_of(caller)


def part(trace, names):
    """The deeds of the calls of these operations."""
    found = []
    taken = {}
    for deed in trace:
        caller, word, what = deed
        if word == "call":
            taken[caller] = what in names
        if taken.get(caller, False):
            found.append(deed)
    return found


def check_trace(table, trace):
    """Raise unless this list of any values is a trace of operations of the table."""
    open_now = {}
    for at, deed in enumerate(trace):
        if not is_deed(deed) or not is_visible(deed):
            raise BadTrace(at)
        caller, word, _ = deed
        if (word == "call") == open_now.get(caller, False):
            raise BadTrace(at)
        open_now[caller] = word == "call"
    if len(trace) > MOST_DEEDS:
        raise BadTrace(MOST_DEEDS)
    for _, word, what in trace:
        if word == "call":
            table.check_name(what)
