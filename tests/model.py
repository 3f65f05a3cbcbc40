"""The document once more, by other means, for the tests to compare with.

Rows are texts here. A cut is an error that the limit catches, the possible calls are found by trying both outcomes of
each try (and not by what the document says about faults and one ok), and orders are taken from itertools.
"""

import itertools

BAD = {"fault", "late", "denied"}
TURNED = {"fault": {"fault", "late"}, "all": BAD}
WISHES = ("kept", "leave", "once", "tries", "calm", "spare", "fresh")
BOUNDS = tuple(f"bound {many}" for many in range(1, 7))


class Cut(Exception):
    """A limit cuts; the argument is its index."""


class MoreTries(Exception):
    """The call makes more tries than it has outcomes."""


class Run:
    """One call and what comes of it."""

    def __init__(self, texts, standing, caller, outcomes):
        self.texts = texts
        self.standing = dict(enumerate(standing))
        self.caller = caller
        self.outcomes = list(outcomes)
        self.made = 0
        self.room = {}
        self.counts = {at: 0 for at, text in enumerate(texts) if text == "count"}
        self.given = []
        self.stored = []
        ask = self.inner
        for at in reversed(range(len(texts))):
            ask = self.wrapped(at, texts[at].split(" "), ask)
        self.answer = ask(caller)
        self.behind = tuple(self.standing[at] for at in range(len(texts)))

    def inner(self, caller):
        for at in sorted(self.room):
            if self.room[at] == 0:
                raise Cut(at)
        if self.made == len(self.outcomes):
            raise MoreTries()
        for at in self.room:
            self.room[at] -= 1
        self.made += 1
        return self.outcomes[self.made - 1]

    def wrapped(self, at, words, below):
        """What asks the row with these words, if below asks what lies below it."""
        kind = words[0]

        def keep(caller):
            if self.standing[at]:
                self.given.append((at, self.standing[at][0], self.standing[at][2]))
                return self.standing[at][0]
            answer = below(caller)
            if words[1] == "all" or answer in {"ok", "spare"}:
                self.standing[at] = (answer, None if words[2] == "ever" else int(words[2]), False)
                self.stored.append(answer)
            return answer

        def tries(caller):
            for asked in range(int(words[1])):
                answer = below(caller)
                if answer not in TURNED[words[2]]:
                    break
            return answer

        def limit(caller):
            self.room[at] = int(words[1])
            try:
                return below(caller)
            except Cut as cut:
                if cut.args != (at,):
                    raise
                return "late"
            finally:
                del self.room[at]

        def leave(caller):
            return "denied" if caller == "out" else below(caller)

        def soft(caller):
            answer = below(caller)
            return "spare" if answer in TURNED[words[1]] else answer

        def count(caller):
            self.counts[at] += 1
            return below(caller)

        def lend(caller):
            return below("in")

        return {"keep": keep, "tries": tries, "limit": limit, "leave": leave,
                "soft": soft, "count": count, "lend": lend}[kind]


def breaks(run, wish):
    """Whether a call breaks a wish."""
    counts = list(run.counts.values())
    if wish == "kept":
        return any(word in BAD for at, word, is_old in run.given)
    if wish == "leave":
        return run.caller == "out" and not (run.made == 0 and run.answer != "ok")
    if wish == "once":
        return counts != [1] * len(counts)
    if wish == "tries":
        return counts != [run.made] * len(counts)
    if wish == "calm":
        return run.caller == "in" and run.answer in BAD
    if wish == "spare":
        return "spare" in run.stored
    if wish == "fresh":
        return any(is_old for at, word, is_old in run.given)
    return run.made > int(wish.split(" ")[1])


def begun(texts):
    return (None,) * len(texts)


def ticked(standing):
    things = []
    for thing in standing:
        if thing is None or thing[1] == 0:
            things.append(None)
        else:
            things.append((thing[0], None if thing[1] is None else thing[1] - 1, True))
    return tuple(things)


def runs_from(texts, standing):
    """All possible calls from a standing."""
    runs = []
    open_calls = [("in", ()), ("out", ())]
    while open_calls:
        caller, outcomes = open_calls.pop()
        try:
            runs.append(Run(texts, standing, caller, outcomes))
        except MoreTries:
            open_calls += [(caller, outcomes + ("ok",)), (caller, outcomes + ("fault",))]
    return runs


def play(texts, events):
    """The six attributes of what comes of right events."""
    standing = begun(texts)
    answers, tries, given, broken = [], [], [], []
    counts = [0 if text == "count" else None for text in texts]
    for number, event in enumerate(events):
        if event == "tick":
            standing = ticked(standing)
            answers.append(None)
            tries.append(0)
            continue
        caller, *outcomes = event.split(" ")
        run = Run(texts, standing, caller, outcomes)
        assert run.made == len(outcomes)
        standing = run.behind
        answers.append(run.answer)
        tries.append(run.made)
        given += [(number, at, word) for at, word, is_old in run.given]
        broken += sorted((number, wish) for wish in WISHES if breaks(run, wish))
        for at, many in run.counts.items():
            counts[at] += many
    return tuple(answers), tuple(tries), tuple(counts), tuple(given), standing, tuple(broken)


def levels(texts):
    """The standings that can come: those behind no events, those behind one event but not behind none, and so on."""
    seen = {begun(texts)}
    level = {begun(texts)}
    while level:
        yield level
        behind = {ticked(standing) for standing in level}
        behind |= {run.behind for standing in level for run in runs_from(texts, standing)}
        level = behind - seen
        seen |= behind


class Facts:
    """All that the document tells of one stack."""

    def __init__(self, texts):
        self.breach_lengths = {}
        self.standings = set()
        self.most_tries = 0
        for depth, level in enumerate(levels(texts)):
            self.standings |= level
            for standing in level:
                for run in runs_from(texts, standing):
                    self.most_tries = max(self.most_tries, run.made)
                    for wish in WISHES + BOUNDS:
                        if breaks(run, wish):
                            self.breach_lengths.setdefault(wish, depth + 1)

    def keeps(self, wish):
        return wish not in self.breach_lengths


def good(texts, wishes):
    """The good orders of a lot, ascending."""
    found = []
    for order in itertools.permutations(range(len(texts))):
        facts = Facts([texts[at] for at in order])
        if all(facts.keeps(wish) for wish in wishes):
            found.append(order)
    return found


def pairs(order):
    """The pairs of which the first one stands outside the other."""
    return set(itertools.combinations(order, 2))


def outside(found):
    """The pairs in all of some orders."""
    return set.intersection(*[pairs(order) for order in found]) if found else set()


def is_one(many, found):
    """Whether one list tells these orders of so many things."""
    told = [order for order in itertools.permutations(range(many)) if outside(found) <= pairs(order)]
    return not found or told == found


def swapped(order, at):
    things = list(order)
    things[at:at + 2] = reversed(things[at:at + 2])
    return tuple(things)


def clashes(many, found):
    """All triples that show that no one list tells these orders."""
    return {
        (x, y, at) for x in found for y in found for at in range(many - 1)
        if swapped(x, at) not in found and (x[at + 1], x[at]) in pairs(y)
    }


def way_length(found, x, y):
    """How many orders a shortest way has; None if there is no way."""
    reached, length = {x}, 1
    while y not in reached:
        more = reached | {swapped(order, at) for order in reached for at in range(len(order) - 1)} & set(found)
        if more == reached:
            return None
        reached, length = more, length + 1
    return length


def kept(texts, wishes):
    """Those of some wishes that a stack keeps."""
    facts = Facts(texts)
    return {wish for wish in wishes if facts.keeps(wish)}


def enough(must, spares, wishes):
    """The first of the smallest sets of spares that, put to the others, have a good order."""
    for many in range(len(spares) + 1):
        for chosen in itertools.combinations(range(len(spares)), many):
            if good([*must, *(spares[at] for at in chosen)], wishes):
                return chosen
    return None


def needless(texts, wishes):
    """The indexes of the rows that can be taken off."""
    return tuple(at for at in range(len(texts)) if kept(texts[:at] + texts[at + 1:], wishes) == kept(texts, wishes))


def twice(texts, wishes):
    """The indexes of the rows that can be put on once more."""
    return tuple(at for at in range(len(texts)) if kept(texts[:at + 1] + texts[at:], wishes) == kept(texts, wishes))


def seen(run):
    """What is seen of a call from outside."""
    return f"{run.caller} {run.answer}"


def fits(texts, log, standing=None):
    """Whether some inner function brings a log, from the beginning if no standing is given."""
    standing = standing or begun(texts)
    if not log:
        return True
    if log[0] == "tick":
        return fits(texts, log[1:], ticked(standing))
    return any(fits(texts, log[1:], run.behind) for run in runs_from(texts, standing) if seen(run) == log[0])


def first_misfit(texts, log):
    """The index of the first thing behind which a log fits no more."""
    return next((at for at in range(len(log)) if not fits(texts, log[:at + 1])), None)


def fitting(texts, log):
    """The orders of a lot that a log fits, ascending."""
    return [order for order in itertools.permutations(range(len(texts))) if fits([texts[at] for at in order], log)]


THINGS = tuple(f"{caller} {answer}" for caller in ("out", "in") for answer in ("ok", "spare", "fault", "late", "denied"))


def telling(texts, longest):
    """The first of the shortest logs of calls that fits to some orders, but not to all."""
    for length in range(1, longest + 1):
        for log in sorted(itertools.product(THINGS, repeat=length)):
            if len(fitting(texts, log)) not in (0, len(list(itertools.permutations(texts)))):
                return log
    return None


class Work:
    """A stack at work: pairs of a row and what it has kept, and what was ahead of each deed."""

    def __init__(self, texts):
        self.pairs = [[text, None] for text in texts]
        self.events = []
        self.past = []

    def facts(self):
        """What a live stack tells of itself."""
        return ("\n".join(text for text, kept in self.pairs), tuple(kept for text, kept in self.pairs),
                tuple(self.events), len(self.past))

    def deed(self):
        """To be called ahead of each deed."""
        self.past.append(([list(pair) for pair in self.pairs], list(self.events)))

    def undo(self):
        if not self.past:
            return False
        self.pairs, self.events = self.past.pop()
        return True

    def possible(self):
        """All events that can happen now, ascending."""
        runs = runs_from([text for text, kept in self.pairs], [kept for text, kept in self.pairs])
        return ["tick"] + sorted(" ".join([run.caller, *run.outcomes]) for run in runs)

    def happen(self, event):
        """Does a right event; the answer."""
        self.events.append(event)
        texts, standing = [text for text, kept in self.pairs], [kept for text, kept in self.pairs]
        if event == "tick":
            behind, answer = ticked(standing), None
        else:
            caller, *outcomes = event.split(" ")
            run = Run(texts, standing, caller, outcomes)
            behind, answer = run.behind, run.answer
        for pair, kept in zip(self.pairs, behind):
            pair[1] = kept
        return answer
