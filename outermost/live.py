"""Live stacks: stacks at work, whose rows are put on, taken off and exchanged meanwhile."""

from outermost.errors import InvalidEvent, Refused
from outermost.plays import answer_of, begun, happen
from outermost.stacks import exchanged
from outermost.values import is_sequence


class Live:
    """A stack at work.

    now is all that a deed changes: the stack, how it stands, and the events so
    far. past has what now was ahead of each deed that can be taken back.
    """

    def __init__(self, stack):
        self.now = (stack, begun(stack), ())
        self.past = ()

    @property
    def stack(self):
        """The stack as it is now."""
        return self.now[0]

    @property
    def standing(self):
        """How the stack stands now."""
        return self.now[1]

    @property
    def events(self):
        """All events so far."""
        return self.now[2]

    def do(self, event):
        """Does an event; the answer, None for a tick. InvalidEvent with the number of events so far if it is none."""
        stack, standing, events = self.now
        call, behind = happen(stack, standing, event, len(events))
        self.change((stack, behind, (*events, event)))
        return answer_of(call)

    def several(self, events):
        """Does all of some events, or none of them; the answers. Refused with the index of the first wrong one."""
        if not is_sequence(events):
            raise Refused(0)
        stack, standing, done = self.now
        answers = []
        for at, event in enumerate(events):
            try:
                call, standing = happen(stack, standing, event, len(done) + at)
            except InvalidEvent as wrong:
                raise Refused(at) from wrong
            answers.append(answer_of(call))
        if answers:
            self.change((stack, standing, (*done, *events)))
        return tuple(answers)

    def put(self, at, row):
        """Puts on a row, which has this index then, and has kept nothing."""
        stack, standing, events = self.now
        self.change((stack.put(at, row), (*standing[:at], None, *standing[at:]), events))

    def take_off(self, at):
        """Takes off the row at an index, with what it has kept."""
        stack, standing, events = self.now
        self.change((stack.without(at), (*standing[:at], *standing[at + 1:]), events))

    def swap(self, at):
        """Exchanges the row at an index and the next one, with what they have kept."""
        stack, standing, events = self.now
        self.change((stack.swapped(at), exchanged(standing, at), events))

    def undo(self):
        """Takes back the last deed; whether there was one."""
        if not self.past:
            return False
        self.now = self.past[-1]
        self.past = self.past[:-1]
        return True

    def trial(self):
        """A context manager behind whose block this live thing is as it was ahead of it."""
        return Trial(self)

    def within(self, work):
        """What work(live) returns; all that it does to this live thing is taken back."""
        with self.trial() as live:
            return work(live)

    def change(self, then):
        """Goes on to what is then; this can be taken back."""
        self.past = (*self.past, self.now)
        self.now = then

    def __len__(self):
        return len(self.past)


class Trial:
    """A block behind which a live thing is as it was ahead of it, with what can be taken back."""

    def __init__(self, live):
        self.live = live
        self.now = None
        self.past = None

    def __enter__(self):
        self.now = self.live.now
        self.past = self.live.past
        return self.live

    def __exit__(self, kind, value, trace):
        self.live.now = self.now
        self.live.past = self.past
