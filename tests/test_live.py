"""Promise [20]: the live stacks; and [1] to [3] as far as they speak about them."""

import contextlib
import copy
import random
import unittest

from outermost.errors import InvalidEvent, NoRow, Refused
from outermost.live import Live
from outermost.plays import begun, play
from outermost.rows import Count, Keep, Leave, Row
from outermost.stacks import Stack
from tests import model
from tests.samples import large_stacks, rows, small_stacks, stack
from tests.values import ROW_TEXTS, all_values, nested

# Strings that are no events of any stack.
NO_EVENTS = (
    "", " ", "tick ", " tick", "Tick", "TICK", "ticks", "tick tick", "tick ok", "tick in", "tick\n", "ok", "fault",
    "in ", " in", "in  ok", "in ok ", " in ok", "in\tok", "in\nok", "in ok\n", "IN ok", "In ok", "in OK", "in spare",
    "in late", "in denied", "out late", "ok in", "in in", "in tick", "into ok", "in ok,fault", "inok", "None", "-",
)

# Behind a fault two of the three keepers have an answer.
KEPT = ("keep good 1", "leave", "keep all 2", "count", "soft all", "keep good ever")


def facts(live):
    """All that a live stack tells of itself."""
    return str(live.stack), live.standing, live.events, len(live)


def worked(*texts):
    """A live stack with these rows."""
    return Live(stack(*texts))


class Broken(Exception):
    """An error that is none of the package."""


def deeds():
    """One deed of each kind, with what it tells; each can be done to the stack of worked_on."""
    return (
        (lambda live: live.do("in"), "fault"), (lambda live: live.do("out"), "fault"),
        (lambda live: live.do("tick"), None), (lambda live: live.several(["tick"]), (None,)),
        (lambda live: live.several(("in", "tick", "tick", "in fault ok")), ("fault", None, None, "ok")),
        (lambda live: live.put(0, Leave()), None), (lambda live: live.put(3, Keep()), None),
        (lambda live: live.put(1, Count()), None), (lambda live: live.take_off(0), None),
        (lambda live: live.take_off(2), None), (lambda live: live.swap(0), None), (lambda live: live.swap(1), None),
    )


def worked_on():
    """A live stack with some events behind it, and two deeds that can be taken back."""
    live = worked("keep all 1", "tries 2 fault", "count")
    live.do("in fault fault")
    live.put(2, Leave())
    live.take_off(2)
    return live


class BeginningTest(unittest.TestCase):
    def test_at_first(self):
        for texts in small_stacks()[::11] + large_stacks(10):
            put = stack(*texts)
            for live in (Live(put), Live(stack=put)):
                self.assertEqual(live.stack, put)
                self.assertEqual(live.standing, begun(put))
                self.assertEqual((live.events, len(live)), ((), 0))
                self.assertEqual((type(live.stack), type(live.standing), type(live.events)), (Stack, tuple, tuple))
                self.assertIs(live.undo(), False)

    def test_properties(self):
        for name in ("stack", "standing", "events"):
            self.assertIsInstance(vars(Live)[name], property)

    def test_not_iterable(self):
        live = worked("leave", "count")
        live.do("in ok")
        for value in (live, live.trial()):
            self.assertRaises(TypeError, iter, value)
            self.assertRaises(TypeError, list, value)

    def test_two_of_one_stack(self):
        put = stack("keep good ever")
        first, second = Live(put), Live(put)
        first.do("in ok")
        first.take_off(0)
        self.assertEqual(facts(second), ("keep good ever", (None,), (), 0))
        self.assertEqual(str(put), "keep good ever")
        self.assertEqual(second.do("in fault"), "fault")


class DoTest(unittest.TestCase):
    def test_by_hand(self):
        live = worked("keep all 1", "tries 2 fault", "count")
        for event, answer, kept in (
            ("in fault fault", "fault", ("fault", 1, False)), ("out", "fault", ("fault", 1, False)),
            ("tick", None, ("fault", 0, True)), ("in", "fault", ("fault", 0, True)), ("tick", None, None),
            ("tick", None, None), ("in fault ok", "ok", ("ok", 1, False)), ("in", "ok", ("ok", 1, False)),
        ):
            many = len(live)
            self.assertEqual(live.do(event), answer)
            self.assertEqual(live.standing, (kept, None, None))
            self.assertEqual((live.events[-1], len(live.events), len(live)), (event, many + 1, many + 1))
        self.assertEqual(live.events, ("in fault fault", "out", "tick", "in", "tick", "tick", "in fault ok", "in"))
        self.assertEqual(str(live.stack), "keep all 1\ntries 2 fault\ncount")

    def test_as_in_a_play(self):
        choice = random.Random(10)
        for texts in small_stacks()[::9] + large_stacks(40):
            live, work = worked(*texts), model.Work(texts)
            answers = []
            for place in range(8):
                event = choice.choice(work.possible())
                work.happen(event)
                answers.append(live.do(event=event))
            played = play(stack(*texts), live.events)
            self.assertEqual((played.answers, played.behind), (tuple(answers), live.standing))
            self.assertEqual(len(live), 8)

    def test_the_stack_as_it_is_now(self):
        live = worked("tries 2 fault")
        self.assertRaises(InvalidEvent, live.do, "in fault")
        live.take_off(0)
        self.assertEqual(live.do("in fault"), "fault")
        live.put(0, Leave())
        self.assertEqual(live.do("out"), "denied")
        self.assertEqual(live.events, ("in fault", "out"))

    def test_wrong_events(self):
        values = list(NO_EVENTS) + [value for value in all_values() if value != "tick"] + [["tick"], ("in ok",), b"tick"]
        # Calls with other tries than are made: the keeper has a fault, so that none is made.
        values += ["in ok", "in fault", "in fault fault", "out ok", "out fault fault", "in ok ok", "out fault ok"]
        for value in values + [nested("tick", 8)]:
            live = worked_on()
            before = facts(live)
            # The number of events so far, not of deeds.
            for number in (1, 2, 3):
                with self.assertRaises(InvalidEvent) as caught:
                    live.do(value)
                self.assertEqual((type(caught.exception.at), caught.exception.at), (int, number))
                self.assertEqual(facts(live), before)
                live.do("in")
                before = facts(live)

    def test_other_tries(self):
        live = worked("leave", "tries 2 fault")
        for event in ("in", "in fault", "in ok ok", "in ok fault", "in fault fault fault", "in fault fault ok", "out ok",
                      "out fault", "out fault fault"):
            with self.assertRaises(InvalidEvent) as caught:
                live.do(event)
            self.assertEqual(caught.exception.at, 0)
        self.assertEqual(facts(live), ("leave\ntries 2 fault", (None, None), (), 0))
        self.assertEqual([live.do(event) for event in ("in ok", "in fault ok", "in fault fault", "out")],
                         ["ok", "ok", "fault", "denied"])


class SeveralTest(unittest.TestCase):
    def test_none(self):
        live = worked_on()
        before = facts(live)
        for events in ([], ()):
            self.assertEqual(live.several(events), ())
            self.assertIs(type(live.several(events)), tuple)
            self.assertEqual(facts(live), before)

    def test_good_events(self):
        events = ["in fault fault", "out", "tick", "in", "tick", "in ok"]
        for kind in (list, tuple):
            live = worked("keep all 1", "tries 2 fault", "count")
            answers = live.several(events=kind(events))
            self.assertEqual(answers, ("fault", "fault", None, "fault", None, "ok"))
            self.assertIs(type(answers), tuple)
            self.assertEqual(facts(live), ("keep all 1\ntries 2 fault\ncount", (("ok", 1, False), None, None),
                                           tuple(events), 1))
            self.assertEqual(live.several(kind(["in", "tick"])), ("ok", None))
            self.assertEqual((live.events, len(live)), (tuple(events) + ("in", "tick"), 2))
            self.assertIs(type(live.events), tuple)
        self.assertEqual(events, ["in fault fault", "out", "tick", "in", "tick", "in ok"])

    def test_a_list_that_changes_later(self):
        live, events = worked("leave"), ["in ok", "out"]
        live.several(events)
        events.append("tick")
        events[0] = "in fault"
        self.assertEqual(live.events, ("in ok", "out"))

    def test_as_one_deed(self):
        live, other = worked_on(), worked_on()
        live.several(["in", "tick", "tick", "in ok"])
        for event in ("in", "tick", "tick", "in ok"):
            other.do(event)
        self.assertEqual((live.standing, live.events), (other.standing, other.events))
        self.assertEqual((len(live), len(other)), (4, 7))
        live.undo()
        self.assertEqual(facts(live), facts(worked_on()))

    def assert_refused(self, at, events, cause):
        live = worked_on()
        before = facts(live)
        with self.assertRaises(Refused) as caught:
            live.several(events)
        self.assertEqual((type(caught.exception.at), caught.exception.at), (int, at))
        if cause is None:
            self.assertIs(caught.exception.__cause__, None)
        else:
            self.assertIs(type(caught.exception.__cause__), InvalidEvent)
            self.assertEqual(caught.exception.__cause__.at, cause)
        self.assertEqual(facts(live), before)
        # One event has been done ahead of them all.
        self.assertEqual(live.several(["in"]), ("fault",))

    def test_one_wrong_event_at_each_place(self):
        wrong = list(NO_EVENTS) + [value for value in all_values() if value != "tick"] + [["tick"], ("in",), nested(0, 8)]
        for value in wrong + ["in fault", "out ok", "in fault fault", "in fault ok"]:
            for at in range(4):
                events = ["in", "tick", "out"]
                events.insert(at, value)
                self.assert_refused(at, events, 1 + at)
                self.assert_refused(at, tuple(events), 1 + at)
                self.assert_refused(at, events + [None, value], 1 + at)

    def test_other_tries_behind_those_ahead(self):
        self.assert_refused(3, ["in", "tick", "tick", "in"], 4)
        self.assert_refused(4, ["in", "tick", "tick", "in ok", "in ok"], 5)

    def test_no_sequences(self):
        for value in all_values() + ["tick", "in", {}, {"tick": 1}, {"tick"}, b"tick"]:
            if not isinstance(value, (list, tuple)):
                self.assert_refused(0, value, None)


class RowsTest(unittest.TestCase):
    def kept(self):
        """A live stack with rows that have kept something, and its rows and what they have."""
        live = worked(*KEPT)
        live.several(["tick", "in fault", "tick"])
        return live, list(zip(KEPT, live.standing))

    def assert_pairs(self, live, pairs):
        self.assertEqual([(str(row), kept) for row, kept in zip(live.stack.rows, live.standing, strict=True)], pairs)
        self.assertEqual({type(live.stack), type(live.standing)}, {Stack, tuple})

    def test_put(self):
        for at in range(len(KEPT) + 1):
            for text in ("leave", "keep all ever", "keep good 1"):
                live, pairs = self.kept()
                events = live.events
                self.assertIs(live.put(at=at, row=Row.read(text)), None)
                pairs.insert(at, (text, None))
                self.assert_pairs(live, pairs)
                self.assertEqual((live.events, len(live)), (events, 2))

    def test_take_off(self):
        for at in range(len(KEPT)):
            live, pairs = self.kept()
            events = live.events
            self.assertIs(live.take_off(at=at), None)
            del pairs[at]
            self.assert_pairs(live, pairs)
            self.assertEqual((live.events, len(live)), (events, 2))

    def test_swap(self):
        for at in range(len(KEPT) - 1):
            live, pairs = self.kept()
            events = live.events
            self.assertIs(live.swap(at=at), None)
            pairs[at:at + 2] = pairs[at + 1], pairs[at]
            self.assert_pairs(live, pairs)
            self.assertEqual((live.events, len(live)), (events, 2))

    def test_the_kept_answers_differ(self):
        live, pairs = self.kept()
        self.assertEqual(live.standing, (("spare", 0, True), None, ("spare", 1, True), None, None, None))

    def test_what_was_kept_is_given_from_the_new_place(self):
        live = worked("leave", "keep good ever")
        live.do("in ok")
        self.assertEqual(live.do("out"), "denied")
        live.swap(0)
        self.assertEqual((live.standing, live.do("out")), ((("ok", None, False), None), "ok"))
        live.put(0, Keep("all", 0))
        self.assertEqual(live.standing, (None, ("ok", None, False), None))
        self.assertEqual((live.do("out"), live.standing[0]), ("ok", ("ok", 0, False)))
        live.take_off(1)
        self.assertEqual((live.do("out"), live.standing), ("ok", (("ok", 0, False), None)))
        live.take_off(0)
        self.assertEqual((live.do("out"), live.standing), ("denied", (None,)))
        live.put(1, Keep())
        self.assertEqual((live.do("in fault"), live.standing), ("fault", (None, None)))

    def test_row_put_on_again_has_nothing(self):
        live = worked("keep good ever")
        live.do("in ok")
        row = live.stack[0]
        live.take_off(0)
        live.put(0, row)
        self.assertEqual((live.standing, live.do("in fault")), ((None,), "fault"))

    def test_no_rows(self):
        live = Live(Stack())
        live.put(0, Count())
        live.take_off(0)
        self.assertEqual(facts(live), ("", (), (), 2))

    def test_no_such_rows(self):
        for many in range(4):
            live = worked(*KEPT[:many])
            live.do("in fault")
            before = facts(live)
            calls = [(live.take_off, range(many)), (live.swap, range(many - 1)),
                     (lambda at: live.put(at, Leave()), range(many + 1))]
            for call, right in calls:
                for at in [*range(-8, 9), 10 ** 30, -10 ** 30]:
                    if at in right:
                        continue
                    with self.assertRaises(NoRow) as caught:
                        call(at)
                    self.assertEqual((type(caught.exception.at), caught.exception.at), (int, at))
                    self.assertEqual(facts(live), before)

    def test_the_stack_handed_in_stays(self):
        put = stack("leave", "keep good ever")
        live = Live(put)
        live.do("in ok")
        live.swap(0)
        live.take_off(1)
        live.put(0, Count())
        self.assertEqual((str(put), str(live.stack)), ("leave\nkeep good ever", "count\nkeep good ever"))

    def test_what_was_told_stays(self):
        live = worked("leave", "keep good ever")
        before = live.stack, live.standing, live.events
        live.do("in ok")
        live.swap(0)
        self.assertEqual((str(before[0]), before[1:]), ("leave\nkeep good ever", ((None, None), ())))


class UndoTest(unittest.TestCase):
    def test_each_deed(self):
        for deed, told in deeds():
            live = worked_on()
            before = facts(live)
            self.assertEqual(deed(live), told)
            self.assertEqual(len(live), before[-1] + 1)
            self.assertNotEqual(facts(live), before)
            self.assertIs(live.undo(), True)
            self.assertEqual(facts(live), before)

    def test_until_there_is_none(self):
        live = worked("keep all 1", "tries 2 fault", "count")
        states = [facts(live)]
        for deed in (lambda: live.do("in fault fault"), lambda: live.put(2, Leave()), lambda: live.several(["in", "tick"]),
                     lambda: live.swap(0), lambda: live.take_off(1), lambda: live.do("tick")):
            deed()
            states.append(facts(live))
        self.assertEqual(len(live), 6)
        while len(states) > 1:
            self.assertEqual(facts(live), states.pop())
            self.assertIs(live.undo(), True)
        for number in range(3):
            self.assertEqual(facts(live), states[0])
            self.assertIs(live.undo(), False)
        self.assertEqual(live.do("in ok"), "ok")
        self.assertEqual(len(live), 1)

    def test_what_was_taken_back_can_be_done_again(self):
        for first, told in deeds():
            for second, other in deeds():
                live, expected = worked_on(), worked_on()
                first(live)
                live.undo()
                self.assertEqual(second(live), other)
                second(expected)
                self.assertEqual(facts(live), facts(expected))


class TrialTest(unittest.TestCase):
    def all_deeds(self, live):
        live.undo()
        live.several(["in", "tick"])
        live.swap(0)
        live.put(1, Keep("all"))
        live.do("in")
        live.take_off(0)
        live.undo()

    def test_left_at_the_end(self):
        live = worked_on()
        before = facts(live)
        with live.trial() as held:
            self.assertIs(held, live)
            self.assertEqual(facts(live), before)
            self.all_deeds(live)
            self.assertNotEqual(facts(live), before)
        self.assertEqual(facts(live), before)

    def test_what_can_be_taken_back(self):
        live, expected = worked_on(), worked_on()
        with live.trial():
            self.all_deeds(live)
            while live.undo():
                pass
            self.assertEqual(facts(live), ("keep all 1\ntries 2 fault\ncount", (None,) * 3, (), 0))
            live.do("in ok")
        for number in range(4):
            self.assertEqual(facts(live), facts(expected))
            self.assertEqual(live.undo(), expected.undo())
        self.assertEqual(len(live), 0)

    def test_left_by_an_error(self):
        for error in (Broken("x"), InvalidEvent(3), KeyError(1), KeyboardInterrupt()):
            live = worked_on()
            before = facts(live)
            with self.assertRaises(type(error)) as caught:
                with live.trial():
                    self.all_deeds(live)
                    raise error
            self.assertIs(caught.exception, error)
            self.assertEqual(facts(live), before)
            self.assertEqual(live.do("in"), "fault")

    def test_left_by_an_error_of_a_deed(self):
        live = worked_on()
        before = facts(live)
        for call, error in ((lambda: live.do("x"), InvalidEvent), (lambda: live.several(["in", 1]), Refused),
                            (lambda: live.put(9, Leave()), NoRow), (lambda: live.take_off(9), NoRow),
                            (lambda: live.swap(9), NoRow)):
            with self.assertRaises(error):
                with live.trial():
                    live.do("in")
                    call()
            self.assertEqual(facts(live), before)

    def test_left_otherwise(self):
        def returned(live):
            with live.trial() as held:
                held.do("in")
                return len(held)

        live = worked_on()
        before = facts(live)
        self.assertEqual(returned(live), 4)
        self.assertEqual(facts(live), before)
        for number in range(2):
            with live.trial():
                live.do("in")
                break
        self.assertEqual(facts(live), before)

    def test_one_in_another(self):
        live = worked_on()
        outer = facts(live)
        with live.trial():
            live.undo()
            live.do("tick")
            middle = facts(live)
            with live.trial():
                live.undo()
                live.undo()
                inner = facts(live)
                with live.trial():
                    live.put(0, Leave())
                self.assertEqual(facts(live), inner)
                live.swap(1)
            self.assertEqual(facts(live), middle)
            with self.assertRaises(Broken):
                with live.trial():
                    live.swap(0)
                    raise Broken()
            self.assertEqual(facts(live), middle)
            self.assertIs(live.undo(), True)
        self.assertEqual(facts(live), outer)

    def test_each_is_new(self):
        live = worked_on()
        self.assertIsNot(live.trial(), live.trial())
        for number in range(3):
            before = facts(live)
            with live.trial():
                live.swap(0)
            self.assertEqual(facts(live), before)
            live.do("tick")

    def test_as_it_was_when_it_was_entered(self):
        live = worked_on()
        trial = live.trial()
        live.do("tick")
        before = facts(live)
        with trial as held:
            self.assertIs(held, live)
            self.all_deeds(live)
        self.assertEqual(facts(live), before)

    def test_one_that_is_not_entered(self):
        live = worked_on()
        live.trial()
        live.do("in")
        self.assertEqual(len(live), 4)

    def test_nothing_done(self):
        live = worked_on()
        with live.trial():
            pass
        self.assertEqual(facts(live), facts(worked_on()))
        live = worked("leave")
        with live.trial():
            self.assertIs(live.undo(), False)
        self.assertEqual(facts(live), ("leave", (None,), (), 0))

    def test_with_an_exit_stack(self):
        live = worked_on()
        with contextlib.ExitStack() as blocks:
            for number in range(5):
                self.assertIs(blocks.enter_context(live.trial()), live)
                live.do("in")
        self.assertEqual(facts(live), facts(worked_on()))

    def test_two_live_stacks(self):
        first, second = worked_on(), worked_on()
        with first.trial():
            second.do("tick")
            first.undo()
        self.assertEqual((len(first), len(second)), (3, 4))


class WithinTest(unittest.TestCase):
    def test_what_it_returns(self):
        live = worked_on()
        before = facts(live)
        for value in (None, 0, False, "x", [1], live):
            self.assertIs(live.within(lambda held: value), value)
        self.assertEqual(live.within(lambda held: held.do("in")), "fault")
        self.assertIs(live.within(work=lambda held: held), live)
        self.assertEqual(live.within(lambda held: held.several(["in", "tick", "tick", "in ok"])),
                         ("fault", None, None, "ok"))
        self.assertEqual(facts(live), before)

    def test_all_is_taken_back(self):
        live = worked_on()
        told = []

        def work(held):
            while held.undo():
                told.append(len(held))
            held.put(0, Leave())
            held.do("out")
            return facts(held)

        self.assertEqual(live.within(work), ("leave\nkeep all 1\ntries 2 fault\ncount", (None,) * 4, ("out",), 2))
        self.assertEqual(told, [2, 1, 0])
        self.assertEqual(facts(live), facts(worked_on()))

    def test_an_error_goes_on(self):
        live = worked_on()
        error = Broken("y")

        def work(held):
            held.take_off(0)
            raise error

        with self.assertRaises(Broken) as caught:
            live.within(work)
        self.assertIs(caught.exception, error)
        self.assertEqual(facts(live), facts(worked_on()))
        self.assertRaises(Refused, live.within, lambda held: held.do("in") and held.several(None))
        self.assertEqual(facts(live), facts(worked_on()))

    def test_one_in_another(self):
        live = worked_on()

        def inner(held):
            held.undo()
            return len(held)

        def outer(held):
            held.do("tick")
            before = facts(held)
            told = held.within(inner)
            self.assertEqual(facts(held), before)
            with held.trial():
                held.swap(0)
            self.assertEqual(facts(held), before)
            return told

        self.assertEqual(live.within(outer), 3)
        self.assertEqual(facts(live), facts(worked_on()))


class ModelTest(unittest.TestCase):
    def do_some(self, live, work, choice):
        """One deed, chosen at random, to both."""
        texts = [text for text, kept in work.pairs]
        kind = choice.choice(["do", "do", "do", "several", "put", "take_off", "swap", "undo"])
        if kind == "do":
            event = choice.choice(work.possible())
            work.deed()
            self.assertEqual(live.do(event), work.happen(event))
        elif kind == "several":
            work.deed()
            answers, events = [], []
            for place in range(choice.randint(1, 3)):
                events.append(choice.choice(work.possible()))
                answers.append(work.happen(events[-1]))
            self.assertEqual(live.several(events), tuple(answers))
        elif kind == "put" and len(texts) < 6:
            # With more tries there would be too many possible calls.
            choices = [text for text in ROW_TEXTS if not text.startswith("tries")]
            at, text = choice.randint(0, len(texts)), choice.choice(choices)
            work.deed()
            work.pairs.insert(at, [text, None])
            live.put(at, Row.read(text))
        elif kind == "take_off" and texts:
            at = choice.randrange(len(texts))
            work.deed()
            del work.pairs[at]
            live.take_off(at)
        elif kind == "swap" and len(texts) > 1:
            at = choice.randrange(len(texts) - 1)
            work.deed()
            work.pairs[at:at + 2] = work.pairs[at + 1], work.pairs[at]
            live.swap(at)
        elif kind == "undo":
            self.assertIs(live.undo(), work.undo())

    def test_forty_deeds(self):
        choice = random.Random(12)
        for texts in large_stacks(40):
            live, work = worked(*texts), model.Work(texts)
            for number in range(40):
                self.do_some(live, work, choice)
                self.assertEqual(facts(live), work.facts())
                if number % 10 == 7:
                    before = facts(live)
                    with live.trial():
                        other = copy.deepcopy(work)
                        for place in range(4):
                            self.do_some(live, other, choice)
                            self.assertEqual(facts(live), other.facts())
                    self.assertEqual(facts(live), before)


if __name__ == "__main__":
    unittest.main()
