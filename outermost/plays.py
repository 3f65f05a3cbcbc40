"""Plays: what comes of some events, one after the other."""

from outermost.breaks import WISHES, breaks
from outermost.calls import call_of, ticked
from outermost.errors import InvalidEvent
from outermost.rows import Count
from outermost.values import is_sequence


class Played:
    """What came of some events."""

    def __init__(self, answers, tries, counts, given, behind, broken):
        self.answers = answers
        self.tries = tries
        self.counts = counts
        self.given = given
        self.behind = behind
        self.broken = broken

    def __eq__(self, other):
        # The same call of play is to return an equal result.
        return (isinstance(other, Played) and self.answers == other.answers and self.tries == other.tries
                and self.counts == other.counts and self.given == other.given
                and self.behind == other.behind and self.broken == other.broken)


def begun(stack):
    """The standing at the beginning."""
    return tuple([None for row in stack.rows])


def play(stack, events):
    """What comes of a sequence of events; InvalidEvent with the index of the first wrong one."""
    if not is_sequence(events):
        raise InvalidEvent(0)
    standing = begun(stack)
    calls = []
    for at, event in enumerate(events):
        call, standing = happen(stack, standing, event, at)
        calls.append(call)
    return played(stack, calls, standing)


def happen(stack, standing, event, at):
    """The call that an event is (None for a tick), and the standing behind it; InvalidEvent(at) if it is none."""
    if event == "tick":
        return None, ticked(standing)
    call = call_of(stack, standing, event)
    if call is None:
        raise InvalidEvent(at)
    return call, call.behind


def answer_of(call):
    """The answer of a call; None for a tick."""
    return None if call is None else call.answer


def played(stack, calls, behind):
    """What came of the calls, with None in the place of each tick."""
    numbered = [(at, call) for at, call in enumerate(calls) if call is not None]
    return Played(
        answers=tuple([answer_of(call) for call in calls]),
        tries=tuple([0 if call is None else call.tries for call in calls]),
        counts=counted(stack, [call for at, call in numbered]),
        given=tuple([(at, row, word) for at, call in numbered for row, word, is_old in call.given]),
        behind=behind,
        broken=tuple([(at, wish) for at, call in numbered for wish in WISHES if breaks(call, wish)]),
    )


def counted(stack, calls):
    """How often each row counted in some calls; None for those that are no count."""
    return tuple([
        sum([call.counts[at] for call in calls]) if isinstance(row, Count) else None
        for at, row in enumerate(stack.rows)
    ])
