"""How one call goes through the rows, what a tick does, and which calls are possible."""

from outermost.rows import Count, Keep, Leave, Lend, Limit, Soft, Tries

CALLERS = ("in", "out")
OUTCOMES = ("ok", "fault")
ANSWERS = ("ok", "spare", "fault", "late", "denied")
BAD = ("fault", "late", "denied")

# What a row takes for a fault that is set to this word.
FAULTS_OF = {"fault": ("fault", "late"), "all": ("fault", "late", "denied")}


class Call:
    """A call from a standing, and all that comes of it.

    The inner function answers with the outcomes and with faults behind them. So a
    call has just the outcomes of its tries if it makes as many tries as there are.
    """

    def __init__(self, rows, standing, caller, outcomes):
        self.rows = rows
        self.caller = caller
        self.outcomes = outcomes
        self.held = list(standing)
        self.tries = 0
        self.counts = [0 if isinstance(row, Count) else None for row in rows]
        self.given = []
        self.stored = []
        self.limits = []
        self.cut_by = None
        self.answer = self.ask(0, caller)
        self.behind = tuple(self.held)

    def ask(self, at, caller):
        """The answer of the row at an index; None if a limit above it cuts."""
        if at == len(self.rows):
            return self.make_try()
        row = self.rows[at]
        if isinstance(row, Keep):
            return self.ask_keeper(at, caller)
        if isinstance(row, Tries):
            return self.ask_repeatedly(at, caller)
        if isinstance(row, Limit):
            return self.ask_limited(at, caller)
        if isinstance(row, Soft):
            return self.ask_softly(at, caller)
        if isinstance(row, Leave) and caller == "out":
            return "denied"
        if isinstance(row, Count):
            self.counts[at] += 1
        return self.ask(at + 1, "in" if isinstance(row, Lend) else caller)

    def ask_keeper(self, at, caller):
        """The answer that a keeper has, or else the one from below, which it may store."""
        if self.held[at] is not None:
            word, left, is_old = self.held[at]
            self.given.append((at, word, is_old))
            return word
        row = self.rows[at]
        answer = self.ask(at + 1, caller)
        if answer is not None and may_store(row, answer):
            self.held[at] = (answer, row.life, False)
            self.stored.append(answer)
        return answer

    def ask_repeatedly(self, at, caller):
        """The last answer from below, asked for again behind each fault."""
        row = self.rows[at]
        answer = self.ask(at + 1, caller)
        asked = 1
        while asked < row.many and answer in FAULTS_OF[row.on]:
            answer = self.ask(at + 1, caller)
            asked += 1
        return answer

    def ask_limited(self, at, caller):
        """The answer from below, or late if this limit cuts."""
        self.limits.append((at, self.tries))
        answer = self.ask(at + 1, caller)
        self.limits.pop()
        if self.cut_by == at:
            self.cut_by = None
            return "late"
        return answer

    def ask_softly(self, at, caller):
        """The answer from below, or a spare one instead of a fault."""
        answer = self.ask(at + 1, caller)
        return "spare" if answer in FAULTS_OF[self.rows[at].on] else answer

    def make_try(self):
        """The outcome of one more try; None if a limit cuts instead."""
        # The limits that are being asked stand here from the outermost on: the first one that has reached its number
        # is the one that answers.
        for at, tries_before in self.limits:
            if self.tries - tries_before >= self.rows[at].many:
                self.cut_by = at
                return None
        self.tries += 1
        if self.tries > len(self.outcomes):
            return "fault"
        return self.outcomes[self.tries - 1]


def may_store(row, answer):
    """Whether a keeper stores this answer."""
    return row.what == "all" or answer not in BAD


def ticked(standing):
    """The standing behind a tick."""
    return tuple([aged(thing) for thing in standing])


def aged(thing):
    """What a row has kept, behind a tick."""
    if thing is None:
        return None
    word, left, is_old = thing
    if left == 0:
        return None
    return (word, None if left is None else left - 1, True)


def calls_from(stack, standing):
    """All calls that are possible from a standing."""
    return [call for caller in CALLERS for call in calls_of(stack, standing, caller)]


def calls_of(stack, standing, caller):
    """All calls of a caller that are possible from a standing: some faults, then perhaps one ok."""
    worst = Call(stack.rows, standing, caller, ())
    faults = ("fault",) * worst.tries
    outcomes = [(*faults[:many], "ok") for many in range(worst.tries)]
    return [Call(stack.rows, standing, caller, each) for each in (*outcomes, faults)]


def call_of(stack, standing, event):
    """The call that any value tells; None if it is no call, or one with other tries than are made."""
    if not isinstance(event, str):
        return None
    caller, *outcomes = event.split(" ")
    if caller not in CALLERS or not all([outcome in OUTCOMES for outcome in outcomes]):
        return None
    call = Call(stack.rows, standing, caller, outcomes)
    return call if call.tries == len(outcomes) else None


def event_of(call):
    """The text of a call."""
    return " ".join([call.caller, *call.outcomes])
