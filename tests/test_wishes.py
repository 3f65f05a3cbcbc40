"""Promises [10] to [12]: the wishes; and [1] to [3] as far as they speak about them."""

import unittest

from outermost.errors import InvalidWish
from outermost.orders import clash, clash_holds, good, is_one, nearest, outside, way
from outermost.papers import paper, paper_holds
from outermost.plays import begun, play
from outermost.stacks import Stack
from outermost.wishes import breach, kept_wishes, keeps, most_tries, standings
from tests import model
from tests.samples import large_stacks, small_stacks, stack
from tests.values import all_values

WORDS = ("calm", "fresh", "kept", "leave", "once", "spare", "tries")
BOUNDS = ("bound 1", "bound 2", "bound 3", "bound 4", "bound 5", "bound 6")

# Strings that are no wishes.
NO_WISHES = (
    "bound 0", "bound 7", "bound 10", "bound", "bound 01", "bound 1 ", " bound 1", "bound  1", "bound\t1", "bound 1 1",
    "bound -1", "bound +1", "bound 1.0", "bound one", "bound1", "Bound 1", "1", "bound True", "bound \u0661",
    "Kept", "KEPT", "kept ", " kept", "kept\n", "keep", "", " ", "none", "never", "tick", "kept leave", "kept,leave",
    "limit 1", "count", "soft all", "tries 2 fault", "try", "fres", "freshh", "lend",
)


def no_wishes():
    """Values of all kinds that are no wishes."""
    return [value for value in all_values() if value != "leave"] + list(NO_WISHES) + [["kept"], ("kept",), ["bound 1"], [["kept"]], WORDS]


# A wish, a stack that keeps it, one that does not, and all shortest events that break it there.
CASES = (
    ("kept", ("keep good ever",), ("keep all ever",),
     {(first + " fault", then) for first in ("in", "out") for then in ("in", "out")}),
    ("kept", ("soft all", "keep all 1", "soft all", "leave"), ("keep all ever", "leave", "soft all"),
     {("out", "in"), ("out", "out")}),
    ("kept", ("limit 1", "keep all ever", "soft fault"), ("keep all ever", "limit 1", "soft all", "tries 2 fault"),
     {(first + " fault", then) for first in ("in", "out") for then in ("in", "out")}),
    ("leave", ("leave",), (), {("out ok",), ("out fault",)}),
    ("leave", ("leave", "keep good ever"), ("keep good ever", "leave"), {("in ok", "out")}),
    ("leave", ("soft all", "leave"), ("lend", "leave"), {("out ok",), ("out fault",)}),
    ("once", ("count",), ("tries 2 fault", "count"),
     {(caller + " fault " + last,) for caller in ("in", "out") for last in ("ok", "fault")}),
    ("once", ("tries 2 fault", "leave"), ("leave", "count"), {("out",)}),
    ("once", (), ("keep good 0", "count"),
     {(first + " ok", then) for first in ("in", "out") for then in ("in", "out")}),
    ("tries", ("tries 2 fault", "count"), ("count", "tries 2 fault"),
     {(caller + " fault " + last,) for caller in ("in", "out") for last in ("ok", "fault")}),
    ("tries", ("leave", "keep all 1", "count"), ("count", "leave"), {("out",)}),
    ("calm", ("soft fault",), (), {("in fault",)}),
    ("calm", ("soft fault", "leave"), ("soft fault", "keep all 0", "leave"), {("out", "in")}),
    ("calm", ("soft fault", "tries 2 all", "limit 1"), ("limit 1", "soft fault", "tries 2 all"), {("in fault",)}),
    ("spare", ("soft all", "keep all ever"), ("keep good ever", "soft fault"), {("in fault",), ("out fault",)}),
    ("spare", ("keep good ever", "leave"), ("keep good ever", "soft all", "leave"), {("in fault",), ("out",)}),
    ("fresh", ("keep all 0",), ("keep good 1",),
     {(first + " ok", "tick", then) for first in ("in", "out") for then in ("in", "out")}),
    ("fresh", ("leave",), ("leave", "keep good ever"), {("in ok", "tick", "in")}),
    ("bound 1", ("limit 1", "tries 3 fault"), ("tries 2 fault",),
     {(caller + " fault " + last,) for caller in ("in", "out") for last in ("ok", "fault")}),
    ("bound 2", ("keep all 0", "tries 2 all"), ("leave", "tries 3 fault"),
     {("in fault fault ok",), ("in fault fault fault",)}),
)


class CasesTest(unittest.TestCase):
    def test_each_wish_is_kept_and_broken(self):
        for wish, keeping, breaking, events in CASES:
            self.assertIs(keeps(stack(*keeping), wish), True, (wish, keeping))
            self.assertIs(breach(stack(*keeping), wish), None)
            self.assertIs(keeps(stack(*breaking), wish), False, (wish, breaking))
            self.assertIn(breach(stack(*breaking), wish), events)
            if wish in WORDS:
                self.assertIn(wish, kept_wishes(stack(*keeping)))
                self.assertNotIn(wish, kept_wishes(stack(*breaking)))
        self.assertEqual({case[0] for case in CASES}, set(WORDS) | {"bound 1", "bound 2"})

    def test_cases_have_all_shortest_events(self):
        for wish, keeping, breaking, events in CASES:
            length = model.Facts(breaking).breach_lengths[wish]
            self.assertEqual({len(each) for each in events}, {length})
            for each in events:
                self.assert_breaks_at_the_end(stack(*breaking), wish, each)

    def assert_breaks_at_the_end(self, held, wish, events):
        """That the last event breaks the wish, and none before it."""
        played = play(held, events)
        if wish in WORDS:
            self.assertEqual([at for at, word in played.broken if word == wish], [len(events) - 1])
        else:
            most = int(wish.split(" ")[1])
            self.assertEqual([at for at, made in enumerate(played.tries) if made > most], [len(events) - 1])

    def test_breach(self):
        for texts in small_stacks() + large_stacks(300):
            held, facts = stack(*texts), model.Facts(texts)
            for wish in WORDS + BOUNDS:
                events = breach(held, wish)
                self.assertIs(keeps(held, wish), facts.keeps(wish))
                if facts.keeps(wish):
                    self.assertIs(events, None)
                else:
                    self.assertIs(type(events), tuple)
                    self.assertEqual(len(events), facts.breach_lengths[wish], (texts, wish))
                    self.assert_breaks_at_the_end(held, wish, events)

    def test_breach_over_ticks(self):
        # The outer keeper has to forget its spare, so that the inner one is asked for the fault that it has.
        events = breach(stack=stack("keep good 1", "soft all", "keep all ever"), wish="kept")
        self.assertIn(events, [(first + " fault", "tick", "tick", last)
                               for first in ("in", "out") for last in ("in", "out")])


class KeptWishesTest(unittest.TestCase):
    def test_by_hand(self):
        for texts, expected in (
            ((), ("fresh", "kept", "once", "spare", "tries")),
            (("leave",), ("fresh", "kept", "leave", "once", "spare", "tries")),
            (("soft all", "leave"), WORDS),
            (("leave", "soft all", "count"), ("calm", "fresh", "kept", "leave", "spare", "tries")),
            (("count", "tries 2 fault", "count", "keep all ever", "soft all"), ("calm", "kept", "once")),
        ):
            self.assertEqual(kept_wishes(stack(*texts)), expected)
        self.assertEqual(kept_wishes(stack=stack("leave", "leave", "keep all 2", "soft fault", "tries 2 fault", "count")),
                         ("calm", "kept", "leave", "tries"))

    def test_ascending_and_without_bound(self):
        for texts in small_stacks() + large_stacks(300):
            held, facts = stack(*texts), model.Facts(texts)
            wishes = kept_wishes(held)
            self.assertIs(type(wishes), tuple)
            self.assertEqual(list(wishes), sorted(wish for wish in model.WISHES if facts.keeps(wish)))
            self.assertEqual(wishes, tuple(wish for wish in WORDS if keeps(held, wish)))


class StandingsTest(unittest.TestCase):
    def test_by_hand(self):
        for texts, expected in (
            ((), {()}),
            (("leave", "count"), {(None, None)}),
            (("keep good 1",), {(None,), (("ok", 1, False),), (("ok", 0, True),)}),
            (("keep good 0", "soft fault"), {(None, None), (("ok", 0, False), None), (("spare", 0, False), None)}),
            (("keep all ever",), {(None,)} | {((word, None, is_old),) for word in ("ok", "fault")
                                              for is_old in (False, True)}),
            (("keep all 0", "leave"), {(None, None)} | {((word, 0, False), None) for word in ("ok", "fault", "denied")}),
            (("leave", "keep all 0", "leave"), {(None,) * 3} | {(None, (word, 0, False), None)
                                                                for word in ("ok", "fault")}),
        ):
            told = standings(stack=stack(*texts))
            self.assertIs(type(told), tuple)
            self.assertEqual(sorted(told, key=str), sorted(expected, key=str))

    def test_each_once(self):
        for texts in small_stacks() + large_stacks(300):
            told = standings(stack(*texts))
            self.assertEqual(len(told), len(set(told)))
            self.assertEqual(set(told), model.Facts(texts).standings)
            self.assertIn(begun(stack(*texts)), told)

    def test_kinds(self):
        for standing in standings(stack("keep all 2", "leave", "keep good ever", "limit 1", "tries 2 all", "count")):
            self.assertIs(type(standing), tuple)
            for thing in standing:
                if thing is not None:
                    self.assertIs(type(thing), tuple)
                    self.assertEqual([type(part) for part in thing], [str, type(thing[1]), bool])
                    self.assertIn(type(thing[1]), (int, type(None)))


class MostTriesTest(unittest.TestCase):
    def test_by_hand(self):
        for texts, most in (
            ((), 1), (("leave",), 1), (("keep all ever",), 1), (("tries 3 all",), 3), (("limit 1", "tries 3 all"), 1),
            (("tries 3 fault", "tries 3 fault"), 9), (("limit 4", "tries 3 fault", "tries 3 fault"), 4),
            (("tries 3 fault", "limit 2", "tries 3 fault"), 6), (("tries 3 fault", "keep all 0"), 1),
            (("tries 3 fault", "soft fault"), 1), (("tries 3 fault", "keep good ever", "tries 2 all"), 6),
        ):
            self.assertEqual(most_tries(stack(*texts)), most)
        self.assertEqual(most_tries(stack=stack("tries 2 fault")), 2)

    def test_by_other_means(self):
        for texts in small_stacks() + large_stacks(300):
            self.assertEqual(most_tries(stack(*texts)), model.Facts(texts).most_tries)

    def test_bounds(self):
        for texts in (("tries 3 fault", "tries 3 fault"), ("tries 2 all", "tries 3 fault"), ("tries 3 fault",), ()):
            for most in (1, 2, 3, 4, 5, 6):
                for more in ((), ("limit 1",), ("limit 3",), ("limit 6",)):
                    held = stack(*more, *texts)
                    self.assertIs(keeps(held, f"bound {most}"), most_tries(held) <= most)
                    events = breach(held, f"bound {most}")
                    self.assertIs(events is None, most_tries(held) <= most)
                    if events is not None:
                        self.assertEqual(len(events), 1)
                        self.assertGreater(play(held, events).tries[0], most)


class NoWishTest(unittest.TestCase):
    def test_one_wish(self):
        for value in no_wishes():
            for held in (Stack(), stack("keep all ever", "tries 2 fault")):
                self.assertRaises(InvalidWish, keeps, held, value)
                self.assertRaises(InvalidWish, breach, held, value)
                self.assertRaises(InvalidWish, paper, held, value)
                self.assertRaises(InvalidWish, paper_holds, held, value, ())
                self.assertRaises(InvalidWish, paper_holds, held, value, None)

    def test_sequences_of_wishes(self):
        lot = list(stack("leave", "soft all").rows)
        sequences = [value for value in all_values() if value not in ([], (), ["leave"])]
        sequences += ["kept", "bound 1", {}, {"kept": 1}]
        for value in no_wishes():
            sequences += [[value], (value,), ["kept", value], ("bound 1", value, "kept")]
        for wishes in sequences:
            for function in (good, outside, is_one, clash):
                self.assertRaises(InvalidWish, function, lot, wishes)
            self.assertRaises(InvalidWish, clash_holds, lot, wishes, None)
            self.assertRaises(InvalidWish, nearest, lot, (0, 1), wishes)
            self.assertRaises(InvalidWish, way, lot, (0, 1), (0, 1), wishes)

    def test_wishes_all_let(self):
        for wish in WORDS + BOUNDS:
            self.assertIn(keeps(stack=Stack(), wish=wish), (True, False))
            self.assertIn(type(breach(stack=Stack(), wish=wish)), (tuple, type(None)))
        self.assertEqual(good([], list(WORDS + BOUNDS)), ())
        self.assertEqual(good([], BOUNDS), ((),))


class LimitsTest(unittest.TestCase):
    def test_six_rows_with_two_keepers_and_two_tries(self):
        for texts in (
            ("keep all 1", "tries 2 all", "keep all 1", "tries 2 all", "limit 3", "leave"),
            ("keep all ever", "leave", "keep all 1", "soft fault", "tries 2 all", "tries 2 fault"),
            ("tries 2 fault", "keep good ever", "soft all", "leave", "keep all 1", "tries 2 all"),
            ("tries 3 all", "tries 3 fault", "keep all 3", "soft fault", "leave", "count"),
        ):
            held, facts = stack(*texts), model.Facts(texts)
            self.assertEqual(set(standings(held)), facts.standings)
            self.assertEqual(kept_wishes(held), tuple(wish for wish in WORDS if facts.keeps(wish)))
            self.assertEqual(most_tries(held), facts.most_tries)
            for wish in WORDS:
                self.assertEqual(len(breach(held, wish) or ()), facts.breach_lengths.get(wish, 0))

    def test_same_call_same_result(self):
        held = stack("keep all 1", "leave", "tries 2 all", "soft all")
        before = [(keeps(held, wish), breach(held, wish)) for wish in WORDS]
        told = (standings(held), kept_wishes(held), most_tries(held))
        play(held, ["in ok", "tick", "out"])
        standings(stack("keep all ever"))
        self.assertEqual([(keeps(held, wish), breach(held, wish)) for wish in WORDS], before)
        self.assertEqual((standings(held), kept_wishes(held), most_tries(held)), told)
        self.assertEqual(str(held), "keep all 1\nleave\ntries 2 all\nsoft all")


if __name__ == "__main__":
    unittest.main()
