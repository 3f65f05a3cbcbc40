"""Promises [7] to [9]: how a call goes, how a stack stands, and what is played; and [1] to [3] as far as they speak
about plays. What stands in a test as expected is reckoned by hand from the document, but where it says otherwise."""

import unittest

from outermost.errors import InvalidEvent
from outermost.plays import Played, begun, play
from outermost.stacks import Stack
from tests import model
from tests.samples import large_stacks, small_stacks, stack
from tests.values import all_values, nested

ATTRIBUTES = ("answers", "tries", "counts", "given", "behind", "broken")


def attributes(played):
    return tuple(getattr(played, name) for name in ATTRIBUTES)


def run(texts, *events):
    """What is played on the stack with these rows."""
    return play(stack(*texts), list(events))


def broken_by(texts, *events):
    """The wishes that the last event breaks."""
    return tuple(wish for at, wish in run(texts, *events).broken if at == len(events) - 1)


class BegunTest(unittest.TestCase):
    def test_no_keeper_has_anything(self):
        self.assertEqual(begun(Stack()), ())
        self.assertEqual(begun(stack("keep all ever")), (None,))
        self.assertEqual(begun(stack=stack("keep good 2", "count", "keep all ever", "leave")), (None,) * 4)
        self.assertIs(type(begun(stack("leave"))), tuple)

    def test_behind_no_events(self):
        for texts in small_stacks():
            self.assertEqual(run(texts).behind, begun(stack(*texts)))


class InnerTest(unittest.TestCase):
    def test_answers_as_it_likes(self):
        played = run((), "in ok", "in fault", "out fault", "out ok")
        self.assertEqual(played.answers, ("ok", "fault", "fault", "ok"))
        self.assertEqual(played.tries, (1, 1, 1, 1))
        self.assertEqual((played.counts, played.given, played.behind), ((), (), ()))


class KeepTest(unittest.TestCase):
    def test_good_answers_are_stored(self):
        played = run(["keep good ever"], "in ok", "in", "out")
        self.assertEqual(played.answers, ("ok", "ok", "ok"))
        self.assertEqual(played.tries, (1, 0, 0))
        self.assertEqual(played.given, ((1, 0, "ok"), (2, 0, "ok")))
        self.assertEqual(played.behind, (("ok", None, False),))

    def test_bad_answers_are_not_stored_with_good(self):
        for texts, event, answer in (
            (("keep good ever",), "in fault", "fault"),
            (("keep good ever", "leave"), "out", "denied"),
            (("keep good ever", "limit 1", "tries 2 fault"), "in fault", "late"),
        ):
            played = run(texts, event, event)
            self.assertEqual(played.answers, (answer, answer))
            self.assertEqual(played.given, ())
            self.assertEqual(played.behind, begun(stack(*texts)))

    def test_bad_answers_are_stored_with_all(self):
        for texts, event, answer in (
            (("keep all ever",), "in fault", "fault"),
            (("keep all ever", "leave"), "out", "denied"),
            (("keep all ever", "limit 1", "tries 2 fault"), "in fault", "late"),
        ):
            played = run(texts, event, "in", "out")
            self.assertEqual(played.answers, (answer, answer, answer))
            self.assertEqual(played.tries[1:], (0, 0))
            self.assertEqual(played.given, ((1, 0, answer), (2, 0, answer)))
            self.assertEqual(played.behind[0], (answer, None, False))

    def test_spare_is_good(self):
        played = run(["keep good 3", "soft fault"], "in fault", "in")
        self.assertEqual(played.answers, ("spare", "spare"))
        self.assertEqual(played.behind, (("spare", 3, False), None))

    def test_two_keepers_store_and_the_outer_one_gives(self):
        played = run(["keep all 0", "count", "keep good ever"], "in ok", "in", "tick", "in", "in")
        self.assertEqual(played.given, ((1, 0, "ok"), (3, 2, "ok"), (4, 0, "ok")))
        self.assertEqual(played.counts, (None, 2, None))
        self.assertEqual(played.behind, (("ok", 0, False), None, ("ok", None, True)))

    def test_inner_keeper_gives_to_the_one_outside(self):
        played = run(["keep all ever", "leave", "keep good ever"], "out", "in")
        self.assertEqual(played.answers, ("denied", "denied"))
        played = run(["leave", "keep good ever"], "in ok", "out", "in")
        self.assertEqual(played.answers, ("ok", "denied", "ok"))
        self.assertEqual(played.given, ((2, 1, "ok"),))

    def test_gives_within_the_call_that_it_stored_in(self):
        played = run(["tries 3 fault", "count", "keep all ever"], "in fault")
        self.assertEqual((played.answers, played.tries), (("fault",), (1,)))
        self.assertEqual(played.given, ((0, 2, "fault"), (0, 2, "fault")))
        self.assertEqual(played.counts, (None, 3, None))
        self.assertEqual(played.broken, ((0, "calm"), (0, "kept"), (0, "once"), (0, "tries")))

    def test_two_keepers_give_in_one_call(self):
        played = run(["tries 2 fault", "keep all 0", "keep all ever"], "in fault", "tick", "in")
        self.assertEqual(played.given, ((0, 1, "fault"), (2, 2, "fault"), (2, 1, "fault")))
        self.assertEqual(played.tries, (1, 0, 0))


class TickTest(unittest.TestCase):
    def test_life(self):
        for life in (0, 1, 2, 3):
            texts = [f"keep good {life}"]
            events = ["in ok"]
            self.assertEqual(run(texts, *events).behind, (("ok", life, False),))
            for ticks in range(1, life + 1):
                events += ["tick", "in"]
                played = run(texts, *events)
                self.assertEqual((played.answers[-2:], played.tries[-2:]), ((None, "ok"), (0, 0)))
                self.assertEqual(played.given[-1], (len(events) - 1, 0, "ok"))
                self.assertEqual(played.behind, (("ok", life - ticks, True),))
            events.append("tick")
            self.assertEqual(run(texts, *events).behind, (None,))
            events.append("in fault")
            self.assertEqual(run(texts, *events).answers[-1], "fault")
            with self.assertRaises(InvalidEvent):
                run(texts, *events[:-1], "in")

    def test_life_without_calls_between(self):
        for life in (0, 1, 2, 3):
            for ticks in range(6):
                behind = run([f"keep all {life}"], "in fault", *["tick"] * ticks).behind
                expected = None if ticks > life else ("fault", life - ticks, ticks > 0)
                self.assertEqual(behind, (expected,))

    def test_for_ever(self):
        played = run(["keep good ever"], "in ok", *["tick"] * 38, "in")
        self.assertEqual(len(played.answers), 40)
        self.assertEqual((played.answers[-1], played.tries[-1]), ("ok", 0))
        self.assertEqual(played.behind, (("ok", None, True),))
        self.assertEqual(run(["keep good ever"], "in ok").behind, (("ok", None, False),))

    def test_kinds_of_what_is_kept(self):
        for texts, left, is_old in ((["keep good 1"], 0, True), (["keep good 0"], 0, False)):
            events = ["in ok", "tick"] if is_old else ["in ok"]
            word, told_left, told_is_old = run(texts, *events).behind[0]
            self.assertEqual((word, told_left, told_is_old), ("ok", left, is_old))
            self.assertEqual((type(told_left), type(told_is_old)), (int, bool))

    def test_tick_before_anything_is_kept(self):
        played = run(["keep good 0", "leave"], "tick", "tick", "out", "in ok")
        self.assertEqual(played.behind, (("ok", 0, False), None))

    def test_giving_does_not_make_an_answer_young(self):
        played = run(["keep good 1"], "in ok", "tick", "in", "tick", "in fault")
        self.assertEqual(played.answers, ("ok", None, "ok", None, "fault"))

    def test_stored_again_it_is_young(self):
        played = run(["keep good 1"], "in ok", "tick", "tick", "in ok", "in")
        self.assertEqual((played.behind, played.broken), ((("ok", 1, False),), ()))

    def test_two_keepers_count_on_their_own(self):
        texts = ["keep all 0", "keep good 2"]
        self.assertEqual(run(texts, "in ok", "tick").behind, (None, ("ok", 1, True)))
        self.assertEqual(run(texts, "in ok", "tick", "in").behind, (("ok", 0, False), ("ok", 1, True)))

    def test_what_a_tick_returns(self):
        played = run(["count", "keep all 1"], "tick", "tick")
        self.assertEqual(attributes(played), ((None, None), (0, 0), (0, None), (), (None, None), ()))


class TriesTest(unittest.TestCase):
    def test_asks_again_after_a_fault(self):
        for many in (1, 2, 3):
            for on in ("fault", "all"):
                texts = [f"tries {many} {on}", "count"]
                for faults in range(many):
                    played = run(texts, " ".join(["in"] + ["fault"] * faults + ["ok"]))
                    self.assertEqual(attributes(played)[:3], (("ok",), (faults + 1,), (None, faults + 1)))
                played = run(texts, " ".join(["out"] + ["fault"] * many))
                self.assertEqual(attributes(played)[:3], (("fault",), (many,), (None, many)))

    def test_not_after_denied_or_with_all(self):
        self.assertEqual(attributes(run(["tries 3 fault", "count", "leave"], "out"))[:3],
                         (("denied",), (0,), (None, 1, None)))
        self.assertEqual(attributes(run(["tries 3 all", "count", "leave"], "out"))[:3],
                         (("denied",), (0,), (None, 3, None)))

    def test_after_late(self):
        for on in ("fault", "all"):
            played = run([f"tries 3 {on}", "count", "limit 1", "tries 2 fault"], "in fault fault fault")
            self.assertEqual(attributes(played)[:3], (("late",), (3,), (None, 3, None, None)))

    def test_not_after_spare(self):
        played = run(["tries 3 all", "count", "soft all", "leave"], "out", "in fault")
        self.assertEqual(attributes(played)[:3], (("spare", "spare"), (0, 1), (None, 2, None, None)))

    def test_answers_what_came_last(self):
        played = run(["tries 2 fault", "limit 2", "tries 3 fault"], "in fault fault fault ok", "in fault fault fault fault")
        self.assertEqual(played.answers, ("ok", "late"))

    def test_within_tries(self):
        texts = ["count", "tries 2 fault", "count", "tries 3 fault", "count"]
        played = run(texts, "in" + " fault" * 6, "in" + " fault" * 4 + " ok")
        self.assertEqual(attributes(played)[:3], (("fault", "ok"), (6, 5), (2, None, 4, None, 11)))


class LimitTest(unittest.TestCase):
    def test_cuts_the_next_try(self):
        texts = ["limit 2", "tries 3 fault"]
        played = run(texts, "in fault fault", "in fault ok", "in ok")
        self.assertEqual((played.answers, played.tries), (("late", "ok", "ok"), (2, 2, 1)))

    def test_does_not_cut_if_no_further_try_comes(self):
        for many in (1, 2, 3, 4, 5, 6):
            self.assertEqual(run([f"limit {many}"], "in fault").answers, ("fault",))
        played = run(["limit 2", "tries 2 fault"], "in fault fault")
        self.assertEqual(played.answers, ("fault",))
        played = run(["limit 1", "tries 3 all", "keep all ever"], "in fault")
        self.assertEqual((played.answers, len(played.given)), (("fault",), 2))

    def test_each_number(self):
        texts = ["tries 3 fault", "tries 3 fault"]
        for many in (1, 2, 3, 4, 5, 6):
            played = run([f"limit {many}"] + texts, "in" + " fault" * many)
            self.assertEqual((played.answers, played.tries), (("late",), (many,)))

    def test_begins_anew_when_it_is_asked_again(self):
        played = run(["tries 2 fault", "limit 1", "tries 3 fault"], "in fault fault", "in fault ok")
        self.assertEqual((played.answers, played.tries), (("late", "ok"), (2, 2)))

    def test_counts_only_since_it_was_asked(self):
        # Inside, the first two tries are cut after one each; then the outer limit has made two.
        texts = ["limit 2", "count", "tries 3 fault", "count", "limit 1", "tries 2 fault", "count"]
        played = run(texts, "in fault fault")
        self.assertEqual((played.answers, played.tries), (("late",), (2,)))
        self.assertEqual(played.counts, (None, 1, None, 2, None, None, 4))

    def test_outermost_of_those_that_have_reached_their_number_answers(self):
        self.assertEqual(run(["limit 1", "soft all", "limit 1", "tries 2 fault"], "in fault").answers, ("late",))
        self.assertEqual(run(["limit 2", "soft all", "limit 1", "tries 2 fault"], "in fault").answers, ("spare",))
        self.assertEqual(run(["soft all", "limit 1", "limit 1", "tries 2 fault"], "in fault").answers, ("spare",))
        self.assertEqual(run(["limit 1", "soft all", "limit 2", "tries 3 fault"], "in fault").answers, ("late",))

    def test_keepers_below_store_nothing(self):
        texts = ["limit 1", "keep all ever", "tries 2 fault"]
        played = run(texts, "in fault", "in fault", "in ok")
        self.assertEqual(played.answers, ("late", "late", "ok"))
        self.assertEqual((played.given, played.behind), ((), (None, ("ok", None, False), None)))

    def test_keepers_outside_store_late(self):
        texts = ["keep all 2", "limit 1", "keep all ever", "tries 2 fault"]
        self.assertEqual(run(texts, "in fault").behind, (("late", 2, False), None, None, None))
        texts = ["keep good 2", "limit 1", "keep all ever", "tries 2 fault"]
        self.assertEqual(run(texts, "in fault").behind, (None,) * 4)

    def test_keepers_between_two_limits(self):
        texts = ["limit 2", "keep all ever", "limit 1", "tries 2 fault"]
        self.assertEqual(attributes(run(texts, "in fault"))[4], (None, ("late", None, False), None, None))
        texts = ["limit 1", "keep all ever", "limit 1", "tries 2 fault"]
        self.assertEqual(attributes(run(texts, "in fault"))[4], (None,) * 4)

    def test_nobody_below_tries_again(self):
        texts = ["limit 1", "tries 3 all", "count", "tries 3 fault", "count", "tries 2 fault"]
        played = run(texts, "in fault")
        self.assertEqual((played.answers, played.counts), (("late",), (None, None, 1, None, 1, None)))

    def test_softs_below_do_nothing(self):
        played = run(["limit 1", "soft all", "tries 2 fault"], "in fault")
        self.assertEqual(played.answers, ("late",))

    def test_what_stands_outside_goes_on(self):
        self.assertEqual(run(["soft fault", "limit 1", "tries 2 fault"], "in fault").answers, ("spare",))
        played = run(["tries 3 fault", "count", "limit 1", "count", "tries 2 fault"], "in fault fault ok")
        self.assertEqual(attributes(played)[:3], (("ok",), (3,), (None, 3, None, 3, None)))

    def test_cut_does_not_reach_the_next_call(self):
        texts = ["limit 1", "limit 1", "tries 2 fault"]
        played = run(texts, "in fault", "in ok", "in fault")
        self.assertEqual(played.answers, ("late", "ok", "late"))

    def test_answers_that_need_no_try_are_not_cut(self):
        played = run(["limit 1", "tries 2 all", "leave"], "out")
        self.assertEqual((played.answers, played.tries), (("denied",), (0,)))


class LeaveTest(unittest.TestCase):
    def test_denies_the_caller_without_leave(self):
        played = run(["leave", "count"], "out", "in ok", "out", "in fault")
        self.assertEqual(attributes(played)[:3], (("denied", "ok", "denied", "fault"), (0, 1, 0, 1), (None, 2)))

    def test_lent_leave_holds_below_only(self):
        self.assertEqual(run(["lend", "leave"], "out ok", "out fault", "in ok").answers, ("ok", "fault", "ok"))
        self.assertEqual(run(["leave", "lend"], "out", "in ok").answers, ("denied", "ok"))
        self.assertEqual(run(["lend", "count", "keep good 0", "leave"], "out ok", "out").answers, ("ok", "ok"))

    def test_lent_leave_holds_for_one_call(self):
        played = run(["keep good 0", "leave", "lend"], "in ok", "tick", "out")
        self.assertEqual(played.answers, ("ok", None, "denied"))

    def test_caller_stays_out_for_the_wishes(self):
        self.assertEqual(broken_by(["lend", "leave"], "out ok"), ("leave",))
        self.assertEqual(broken_by(["lend", "leave"], "out fault"), ("leave",))


class SoftTest(unittest.TestCase):
    def test_which_answers_are_turned(self):
        for on, denied in (("fault", "denied"), ("all", "spare")):
            soft = f"soft {on}"
            self.assertEqual(run([soft], "in ok", "in fault", "out fault").answers, ("ok", "spare", "spare"))
            self.assertEqual(run([soft, "limit 1", "tries 2 fault"], "in fault").answers, ("spare",))
            self.assertEqual(run([soft, "leave"], "out").answers, (denied,))
            self.assertEqual(run([soft, "soft fault"], "in fault").answers, ("spare",))

    def test_what_is_kept_outside_and_inside(self):
        self.assertEqual(run(["keep all ever", "soft all"], "in fault").behind, (("spare", None, False), None))
        played = run(["soft all", "keep all ever"], "in fault", "in")
        self.assertEqual((played.answers, played.given), (("spare", "spare"), ((1, 1, "fault"),)))


class CountTest(unittest.TestCase):
    def test_counts_that_it_was_asked(self):
        texts = ["count", "tries 2 fault", "count", "keep good 0", "count", "leave", "count"]
        played = run(texts, "in fault ok", "in", "tick", "out", "in ok")
        self.assertEqual(played.counts, (4, None, 2 + 1 + 1 + 1, None, 2 + 0 + 1 + 1, None, 2 + 0 + 0 + 1))

    def test_never_asked(self):
        self.assertEqual(run(["leave", "count"], "out", "tick").counts, (None, 0))


class BrokenTest(unittest.TestCase):
    """Each wish, broken and kept. (leave is broken by each try for the caller out, and so in many other calls.)"""

    def test_kept(self):
        self.assertEqual(broken_by(["keep all ever"], "in fault", "in"), ("calm", "kept"))
        self.assertEqual(broken_by(["keep all ever"], "in fault", "out"), ("kept",))
        self.assertEqual(broken_by(["soft all", "keep all ever", "leave"], "out", "in"), ("kept",))
        self.assertEqual(broken_by(["keep all ever"], "in fault"), ("calm",))
        self.assertEqual(broken_by(["keep all ever", "soft fault"], "in fault", "in"), ())

    def test_leave(self):
        self.assertEqual(broken_by([], "out ok"), ("leave",))
        self.assertEqual(broken_by(["soft all"], "out fault"), ("leave",))
        self.assertEqual(broken_by(["keep good ever"], "in ok", "out"), ("leave",))
        self.assertEqual(broken_by(["keep good ever", "soft all"], "in fault", "out"), ())
        self.assertEqual(broken_by(["leave"], "out"), ())
        self.assertEqual(broken_by(["soft all", "leave"], "out"), ())
        self.assertEqual(broken_by([], "in ok"), ())

    def test_once(self):
        self.assertEqual(broken_by(["tries 2 fault", "count"], "in fault ok"), ("once",))
        self.assertEqual(broken_by(["tries 2 fault", "count"], "in ok"), ())
        self.assertEqual(broken_by(["keep good ever", "count"], "in ok", "in"), ("once",))
        self.assertEqual(broken_by(["leave", "count"], "out"), ("once",))
        self.assertEqual(broken_by(["tries 2 fault", "tries 2 fault"], "in fault ok"), ())

    def test_once_of_two_counts(self):
        self.assertEqual(broken_by(["count", "tries 2 fault", "count"], "in fault ok"), ("once", "tries"))
        self.assertEqual(broken_by(["tries 2 fault", "count", "tries 1 all", "count"], "in fault ok"), ("once",))

    def test_tries(self):
        self.assertEqual(broken_by(["count", "tries 2 fault"], "in fault ok"), ("tries",))
        self.assertEqual(broken_by(["count", "leave"], "out"), ("tries",))
        self.assertEqual(broken_by(["count", "tries 2 fault"], "in ok"), ())

    def test_calm(self):
        self.assertEqual(broken_by([], "in fault"), ("calm",))
        self.assertEqual(broken_by(["limit 1", "tries 2 fault"], "in fault"), ("calm",))
        self.assertEqual(broken_by(["leave"], "out"), ())
        self.assertEqual(broken_by(["soft fault"], "in fault"), ())
        self.assertEqual(broken_by(["keep all ever", "leave"], "out", "in"), ("calm", "kept"))

    def test_spare(self):
        self.assertEqual(broken_by(["keep good ever", "soft fault"], "in fault"), ("spare",))
        self.assertEqual(broken_by(["keep good ever", "soft fault"], "in fault", "in"), ())
        self.assertEqual(broken_by(["soft fault", "keep good ever"], "in fault"), ())
        self.assertEqual(broken_by(["keep all 1", "soft all", "leave"], "out"), ("spare",))

    def test_fresh(self):
        for life in ("1", "ever"):
            self.assertEqual(broken_by([f"keep good {life}"], "in ok", "tick", "in"), ("fresh",))
            self.assertEqual(broken_by([f"keep good {life}"], "in ok", "in"), ())
        self.assertEqual(broken_by(["keep good 0"], "in ok", "tick", "in ok"), ())

    def test_a_tick_breaks_nothing(self):
        self.assertEqual(run(["keep all ever", "count"], "in ok", "tick", "tick").broken, ())

    def test_bound_is_left_aside(self):
        self.assertEqual(run(["tries 3 fault", "tries 3 fault"], "in" + " fault" * 9).broken, ((0, "calm"),))

    def test_ascending(self):
        played = run(["keep all ever", "count"], "in fault", "tick", "out", "in")
        self.assertEqual(played.broken, (
            (0, "calm"), (2, "fresh"), (2, "kept"), (2, "once"), (3, "calm"), (3, "fresh"), (3, "kept"), (3, "once")))


class EventsTest(unittest.TestCase):
    def assert_no_events(self, at, held, events):
        with self.assertRaises(InvalidEvent) as caught:
            play(held, events)
        self.assertEqual((type(caught.exception.at), caught.exception.at), (int, at))

    def test_no_sequence(self):
        for value in all_values() + ["tick", "in ok", {}, {0: "in ok"}, iter([])]:
            if not isinstance(value, (list, tuple)):
                self.assert_no_events(0, Stack(), value)

    def test_values_that_are_no_strings(self):
        values = [value for value in all_values() if value != "tick"]
        self.assertEqual(len(values), len(all_values()) - 1)
        for value in values:
            for events in ([value], (value,)):
                self.assert_no_events(0, Stack(), events)
            for at in range(4):
                events = ["in ok", "tick", "out fault"]
                events.insert(at, value)
                self.assert_no_events(at, Stack(), events)
                self.assert_no_events(at, Stack(), tuple(events))
                self.assert_no_events(at, Stack(), events + [value, 7])
        self.assert_no_events(0, Stack(), [["in ok"]])
        self.assert_no_events(0, Stack(), [("in", "ok")])
        self.assert_no_events(0, Stack(), [nested("tick", 7)])
        self.assert_no_events(0, Stack(), [["tick"]])

    def test_other_words(self):
        for event in (
            "", " ", "  ", "ok", "fault", "in OK", "IN ok", "In ok", "Tick", "TICK", "tick tick", "tick ok", "in tick",
            "in late", "in denied", "in spare", "in in", "in out", "out in ok", "call", "in,ok", "in-ok", "inok",
            "in 1", "1", "None", "ticks", "tic", "in o", "in oks", "in fault,", "in\nok", "in\tok", "in ok\n",
            "\nin ok", "tick\n", "\ttick", "in\u00a0ok", "in \u00f6k", "to in ok",
        ):
            for texts in ((), ("tries 2 fault",), ("keep all 1", "count")):
                self.assert_no_events(0, stack(*texts), [event])
                self.assert_no_events(2, stack(*texts), ["in ok", "tick", event, "in"])

    def test_spaces(self):
        for event in (" tick", "tick ", "  tick", " in ok", "in ok ", "in  ok", "in   ok", " in", "in ", "in fault  ok",
                      "in fault ok ", " in fault ok", " out", "out "):
            for texts in ((), ("tries 2 fault",), ("leave",)):
                self.assert_no_events(0, stack(*texts), [event])
                self.assert_no_events(1, stack(*texts), ["tick", event])

    def test_other_tries_than_are_made(self):
        right = {"in ok", "in fault ok", "in fault fault", "out ok", "out fault ok", "out fault fault"}
        words = [()]
        for size in range(4):
            words = [*words, *[(*each, more) for each in words for more in ("ok", "fault") if len(each) == size]]
        for caller in ("in", "out"):
            for outcomes in words:
                event = " ".join((caller,) + outcomes)
                if event in right:
                    self.assertEqual(run(["tries 2 fault"], event).tries, (len(outcomes),))
                else:
                    self.assert_no_events(0, stack("tries 2 fault"), [event])
                    self.assert_no_events(1, stack("tries 2 fault"), ["in ok", event])

    def test_tries_where_none_are_made(self):
        self.assert_no_events(0, stack("leave"), ["out ok"])
        self.assert_no_events(1, stack("keep good ever"), ["in ok", "in ok"])
        self.assert_no_events(1, stack("keep good ever"), ["in ok", "out fault"])
        self.assert_no_events(1, stack("keep good ever"), ["in fault", "in"])
        self.assert_no_events(2, stack("keep good 0"), ["in ok", "tick", "in"])
        self.assert_no_events(0, stack("lend", "leave"), ["out"])
        self.assert_no_events(0, stack("limit 1", "tries 2 fault"), ["in fault fault"])
        self.assert_no_events(0, stack("limit 1", "tries 2 fault"), ["in fault ok"])
        self.assert_no_events(0, stack("tries 3 fault"), ["in ok ok"])

    def test_first_wrong_one(self):
        self.assert_no_events(0, Stack(), ["in ok ok", 5])
        self.assert_no_events(0, Stack(), [5, "in ok ok"])
        self.assert_no_events(1, Stack(), ["in ok", "in", "x", None])
        self.assert_no_events(2, Stack(), ["in ok", "tick", "x", "in"])
        self.assert_no_events(39, Stack(), ["in ok"] * 39 + ["in"])

    def test_list_stays(self):
        events = ["in fault ok", "tick", "out ok"]
        copied = list(events)
        held = stack("tries 2 fault", "count")
        played = play(held, events)
        before = attributes(played)
        self.assertEqual(events, copied)
        events[0] = "tick"
        events.append("tick")
        self.assertEqual(attributes(played), before)
        self.assertEqual(play(held, copied), played)
        wrong = ["in ok", 5, []]
        self.assert_no_events(1, held, wrong)
        self.assertEqual(wrong, ["in ok", 5, []])

    def test_lists_and_tuples(self):
        held = stack("keep good 1")
        self.assertEqual(attributes(play(held, ["in ok", "in"])), attributes(play(held, ("in ok", "in"))))
        self.assertEqual(attributes(play(events=[], stack=held)), ((), (), (None,), (), (None,), ()))
        self.assertEqual(attributes(play(held, ())), attributes(play(held, [])))


class PlayedTest(unittest.TestCase):
    def test_attributes_are_tuples(self):
        played = run(["keep all 1", "count"], "in fault", "tick", "in")
        for value in attributes(played) + played.given + played.broken:
            self.assertIs(type(value), tuple)
        self.assertIs(type(played.behind[0]), tuple)
        self.assertIsInstance(played, Played)
        self.assertEqual(set(vars(played)), set(ATTRIBUTES))

    def test_same_call_same_result(self):
        held = stack("keep all 1", "tries 2 fault", "count")
        events = ["in fault fault", "out", "tick", "in"]
        first = play(held, events)
        play(held, ["in ok", "tick"])
        again = play(held, events)
        self.assertEqual(attributes(first), attributes(again))
        self.assertIs(first == again, True)
        self.assertIs(first == play(held, events[:2]), False)
        self.assertIs(first != play(held, events[:2]), True)

    def test_equal_to_nothing_else(self):
        played = run([], "in ok")
        for value in all_values() + [attributes(played)]:
            if not isinstance(value, Played):
                self.assertIs(played == value, False)
                self.assertIs(value == played, False)

    def test_unequal_in_each_attribute(self):
        pairs = (
            ((), ("in ok",), (), ("in fault",)),
            (("leave",), ("out",), ("leave",), ("out", "tick")),
            (("count",), (), ("leave",), ()),
            (("keep good 0",), ("in ok",), ("keep good 1",), ("in ok",)),
            (("count",), ("in ok", "in ok"), ("count",), ("in ok", "out ok")),
            (("count", "limit 1"), ("in ok",), ("limit 1", "count"), ("in ok",)),
            (("tries 2 fault",), ("in ok",), ("tries 2 fault",), ("in fault ok",)),
            (("tries 2 fault", "keep all 0"), ("in fault",), ("tries 3 fault", "keep all 0"), ("in fault",)),
        )
        for texts, events, other_texts, other_events in pairs:
            self.assertIs(run(texts, *events) == run(other_texts, *other_events), False)

    def test_not_iterable(self):
        self.assertRaises(TypeError, iter, run([], "in ok"))
        self.assertRaises(TypeError, list, run([], "in ok"))


class ModelTest(unittest.TestCase):
    """What is played by other means comes out the same."""

    def some_events(self, texts, many):
        """So many events, taken from all possible ones in turn."""
        standing, events = model.begun(texts), []
        for at in range(many):
            if at % 3 == 2:
                events.append("tick")
                standing = model.ticked(standing)
                continue
            runs = sorted(model.runs_from(texts, standing), key=lambda each: (each.caller, each.outcomes))
            chosen = runs[(at * 7 + len(texts)) % len(runs)]
            events.append(" ".join([chosen.caller] + chosen.outcomes))
            standing = chosen.behind
        return events

    def test_small_and_large_stacks(self):
        for texts in small_stacks() + large_stacks(400):
            for events in (self.some_events(texts, 12), self.some_events(texts, 5)):
                self.assertEqual(attributes(run(texts, *events)), model.play(texts, events), (texts, events))

    def test_forty_events_at_the_limits(self):
        for texts in (
            ("keep good 3", "tries 3 all", "keep all 2", "tries 3 fault", "limit 6", "count"),
            ("tries 3 fault", "tries 3 fault", "count", "count", "count", "count"),
            ("limit 6", "limit 6", "limit 6", "limit 6", "limit 6", "limit 6"),
        ):
            events = self.some_events(texts, 40)
            self.assertEqual(attributes(run(texts, *events)), model.play(texts, events))

    def test_more_rows_than_the_limit(self):
        self.assertEqual(run(["count"] * 30, "in ok").counts, (1,) * 30)


if __name__ == "__main__":
    unittest.main()
