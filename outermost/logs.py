"""Logs: what is seen from outside, and what it tells about the rows."""

from outermost.calls import ANSWERS, CALLERS, calls_of, ticked
from outermost.errors import InvalidLog
from outermost.orders import orders_of, pairs_in_all, stack_of
from outermost.plays import begun
from outermost.stacks import rows_of
from outermost.values import is_sequence


def fits(stack, log):
    """Whether some inner function brings just this log."""
    return first_misfit(stack, log) is None


def first_misfit(stack, log):
    """The index of the first thing behind which a log up to there fits no more; None if it fits."""
    check_log(log)
    found = [begun(stack)]
    for at, thing in enumerate(log):
        found = standings_behind(stack, found, thing)
        if not found:
            return at
    return None


def fitting(lot, log):
    """The orders of a lot whose stacks a log fits, ascending."""
    rows = rows_of(lot)
    # There is always an order, so that the log is checked here, too.
    return tuple([order for order in orders_of(len(rows)) if fits(stack_of(rows, order), log)])


def surely_outside(lot, log):
    """All pairs of indexes of which the first one stands outside the other in all fitting orders, ascending."""
    return pairs_in_all(fitting(lot, log))


def telling(lot, longest):
    """The first of the shortest logs of calls that fits to some orders of a lot, but not to all.

    None if no log of at most so many calls does.
    """
    rows = rows_of(lot)
    many = len(orders_of(len(rows)))
    logs = [()]
    for length in range(longest):
        longer = [(*log, thing) for log in logs for thing in calls_seen()]
        logs = []
        for log in longer:
            those = fitting(rows, log)
            if 0 < len(those) < many:
                return log
            # What fits to no order does not with more calls behind it either.
            if those:
                logs.append(log)
    return None


def calls_seen():
    """All things of a log but a tick, ascending."""
    return sorted([f"{caller} {answer}" for caller in CALLERS for answer in ANSWERS])


def check_log(value):
    """InvalidLog for any value that is no log, with the index of the first thing that is none of a log."""
    if not is_sequence(value):
        raise InvalidLog(0)
    things = ["tick", *calls_seen()]
    for at, thing in enumerate(value):
        if thing not in things:
            raise InvalidLog(at)


def standings_behind(stack, found, thing):
    """All standings that can come from some standings by one thing of a log, each once."""
    if thing == "tick":
        return once_each([ticked(standing) for standing in found])
    caller, answer = thing.split(" ")
    calls = [call for standing in found for call in calls_of(stack, standing, caller)]
    return once_each([call.behind for call in calls if call.answer == answer])


def once_each(found):
    """The same standings, each once."""
    return list({standing: True for standing in found})
