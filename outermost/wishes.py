"""Wishes: whether a stack keeps them, whatever happens."""

from outermost.breaks import WISHES, breaks, check_wish
from outermost.calls import calls_from, event_of, ticked
from outermost.plays import begun
from outermost.search import reached, trail


def keeps(stack, wish):
    """Whether a stack keeps a wish."""
    check_wish(wish)
    return keeps_all(stack, [wish])


def kept_wishes(stack):
    """The wishes without a number that a stack keeps, ascending."""
    return tuple(kept_of(stack, WISHES))


def breach(stack, wish):
    """Some shortest events of which the last one breaks a wish; None if there are none."""
    check_wish(wish)
    found = reached_standings(stack)
    # Those that are reached soonest stand first.
    for standing in found:
        for call in calls_from(stack, standing):
            if breaks(call, wish):
                return (*trail(found, standing), event_of(call))
    return None


def standings(stack):
    """All standings that can come, each once."""
    return tuple(reached_standings(stack))


def most_tries(stack):
    """The greatest number of tries in one call."""
    return max([call.tries for call in possible_calls(stack)])


def keeps_all(stack, wishes):
    """Whether a stack keeps all of some wishes."""
    return len(kept_of(stack, wishes)) == len(wishes)


def kept_of(stack, wishes):
    """Those of some wishes that a stack keeps, in their order."""
    calls = possible_calls(stack)
    return [wish for wish in wishes if not any([breaks(call, wish) for call in calls])]


def possible_calls(stack):
    """All calls from all standings that can come."""
    return [call for standing in standings(stack) for call in calls_from(stack, standing)]


def reached_standings(stack):
    """All standings that can come, with what the search knows of each."""
    return reached(begun(stack), lambda standing: events_from(stack, standing))


def events_from(stack, standing):
    """All events that are possible from a standing, each with the standing behind it."""
    calls = calls_from(stack, standing)
    return [("tick", ticked(standing)), *[(event_of(call), call.behind) for call in calls]]
