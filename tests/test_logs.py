"""Promise [19]: the logs; and [1] to [3] as far as they speak about them."""

import itertools
import random
import unittest

from outermost.errors import InvalidLog, InvalidStack
from outermost.logs import first_misfit, fits, fitting, surely_outside, telling
from outermost.plays import play
from outermost.rows import Leave, Row
from outermost.stacks import Stack
from tests import model
from tests.samples import large_stacks, lots, rows, small_stacks, stack
from tests.values import all_values, made_rows, nested, other_values

ANSWERS = ("ok", "spare", "fault", "late", "denied")
THINGS = ["tick"] + [f"{caller} {answer}" for caller in ("in", "out") for answer in ANSWERS]

# Strings that are no things of a log.
NO_THINGS = (
    "", " ", "in", "out", "ok", "fault", "in ", " in ok", "in ok ", "in  ok", " ", "  ", "in\tok", "in ok\n", "\nin ok",
    "in\nok", "in ok ok", "in fault ok", "in tick", "tick ok", "tick in", "tick tick", "tick ", " tick", "tick\n",
    "Tick", "TICK", "ticks", "tic", "IN ok", "In ok", "in OK", "in Ok", "into ok", "inok", "in-ok", "in,ok", "ok in",
    "out out", "in in", "in bad", "in good", "in deny", "in none", "in None", "in -", "in limit", "lend ok", "on ok",
    "outer ok", "ou t ok", "in leave", "in kept", "in faults", "in spares", "in la", "in denied ", "in 1", "-", "None",
)


def seen(texts, events):
    """The log of a play, by the program itself: play has tests of its own."""
    answers = play(stack(*texts), events).answers
    return [event if answer is None else event.split(" ")[0] + " " + answer for event, answer in zip(events, answers)]


def some_log(texts, many, choice):
    """A log of a stack and so many events."""
    work = model.Work(texts)
    events = []
    for place in range(many):
        event = choice.choice([event for event in work.possible()] + ["tick"])
        work.happen(event)
        events.append(event)
    return seen(texts, events)


class FitsTest(unittest.TestCase):
    def assert_misfit(self, texts, log, expected):
        """At which index a log fits no more; None if it fits."""
        for kind in (list, tuple):
            told = first_misfit(stack(*texts), kind(log))
            self.assertEqual((type(told), told), (type(expected), expected), (texts, log))
            self.assertIs(fits(stack(*texts), kind(log)), expected is None, (texts, log))

    def test_by_hand(self):
        for texts, log, expected in (
            ((), (), None),
            ((), ("in ok", "in fault", "tick", "out fault", "out ok", "tick", "tick"), None),
            ((), ("in ok", "in denied"), 1),
            ((), ("in late",), 0),
            ((), ("out spare", "in ok"), 0),
            (("leave",), ("out denied", "in ok", "in fault", "out denied"), None),
            (("leave",), ("out denied", "in denied"), 1),
            (("leave",), ("in ok", "out ok"), 1),
            (("leave",), ("tick", "tick", "out fault"), 2),
            (("lend", "leave"), ("out ok", "out fault"), None),
            (("lend", "leave"), ("out denied",), 0),
            (("soft fault",), ("in ok", "in spare", "out spare"), None),
            (("soft fault",), ("in fault",), 0),
            (("soft fault", "leave"), ("out denied",), None),
            (("soft all", "leave"), ("out denied",), 0),
            (("soft all", "leave"), ("out spare", "in ok", "in spare"), None),
            (("limit 1", "tries 2 fault"), ("in ok", "in late", "out late"), None),
            (("limit 1", "tries 2 fault"), ("in ok", "in fault"), 1),
            (("tries 2 fault", "limit 1"), ("in fault", "in ok"), None),
            (("tries 2 fault", "limit 1"), ("in late",), 0),
            (("keep all ever",), ("in fault", "in fault", "tick", "out fault"), None),
            (("keep all ever",), ("in fault", "in ok"), 1),
            (("keep all ever",), ("in fault", "tick", "out ok", "in fault"), 2),
            (("keep good ever",), ("in fault", "in ok", "in ok"), None),
            (("keep good ever",), ("in fault", "in ok", "in fault"), 2),
            (("keep good 0",), ("in ok", "tick", "in fault", "in ok", "out ok"), None),
            (("keep good 0",), ("in ok", "in fault"), 1),
            (("keep good 1",), ("in ok", "tick", "in fault"), 2),
            (("keep good 1",), ("in ok", "tick", "tick", "in fault"), None),
            (("count",), ("in ok", "out ok", "tick", "in fault"), None),
            (("tries 2 fault", "keep good ever"), ("in ok", "in ok", "in fault"), 2),
            (("soft fault", "keep all 0"), ("in spare", "in spare", "tick", "in ok", "in spare"), 4),
            (("leave", "soft all", "keep good ever"), ("in spare", "in ok", "out denied", "in spare"), 3),
        ):
            self.assert_misfit(texts, log, expected)

    def test_what_is_not_seen(self):
        # Not the fault that is kept below soft, until it is forgotten at the second tick.
        texts = ("soft fault", "keep all 1", "tries 2 fault")
        self.assert_misfit(texts, ("in spare", "in ok"), 1)
        self.assert_misfit(texts, ("in spare", "tick", "in ok"), 2)
        self.assert_misfit(texts, ("in spare", "tick", "in spare", "tick", "in ok"), None)
        # Not how many tries there were.
        self.assert_misfit(("tries 2 fault", "count"), ("in ok", "in fault", "out ok"), None)
        # Not that the keeper has what another caller was denied, until the one with leave gets it.
        texts = ("keep all ever", "soft all", "keep all 0", "leave")
        self.assert_misfit(texts, ("out spare", "in spare", "tick", "in spare"), None)
        self.assert_misfit(texts, ("out spare", "tick", "in ok"), 2)
        self.assert_misfit(texts[1:], ("out spare", "in ok"), 1)
        self.assert_misfit(texts[1:], ("out spare", "tick", "in ok", "out ok", "tick", "out ok"), 5)

    def test_logs_of_plays(self):
        choice = random.Random(7)
        for texts in small_stacks()[::9] + large_stacks(60):
            log = some_log(texts, choice.randint(1, 6), choice)
            self.assert_misfit(texts, log, None)
            for at in range(len(log)):
                self.assert_misfit(texts, log[:at], None)
                for thing in choice.sample(THINGS, 3):
                    spoilt = log[:at] + [thing] + log[at + 1:]
                    expected = model.first_misfit(texts, spoilt)
                    self.assertIn(expected, [None, *range(at, len(log))])
                    self.assert_misfit(texts, spoilt, expected)

    def test_samples_are_of_all_kinds(self):
        choice = random.Random(8)
        found = set()
        for texts in large_stacks(30):
            for number in range(12):
                log = [choice.choice(THINGS) for place in range(4)]
                found.add(first_misfit(stack(*texts), log))
        self.assertLessEqual({None, 0, 1, 2}, found)

    def test_all_short_logs(self):
        for texts in ((), ("leave",), ("keep all 0",), ("keep good 1", "leave"), ("leave", "keep all ever", "soft all"),
                      ("limit 1", "tries 2 fault", "keep good 0")):
            for log in itertools.product(THINGS, repeat=2):
                self.assert_misfit(texts, log, model.first_misfit(texts, log))

    def test_empty_log_and_ticks(self):
        for texts in small_stacks()[::5] + large_stacks(10):
            for many in (0, 1, 2, 12):
                self.assert_misfit(texts, ["tick"] * many, None)

    def test_arguments_by_name_that_stay(self):
        log, put = ["in fault", "in ok"], stack("keep all ever")
        self.assertIs(fits(log=log, stack=put), False)
        self.assertEqual(first_misfit(log=log, stack=put), 1)
        self.assertIs(fits(stack=put, log=log[:1]), True)
        self.assertEqual((log, str(put)), (["in fault", "in ok"], "keep all ever"))
        self.assertEqual(first_misfit(put, log), 1)


# A lot, a log, the orders that it fits, and the pairs that stand so in all of them.
FITTING = (
    ((), (), ((),), ()),
    ((), ("in ok", "out fault"), ((),), ()),
    ((), ("in late",), (), ()),
    (("leave",), ("out denied",), ((0,),), ()),
    (("leave",), ("out ok",), (), ()),
    (("leave", "keep good ever"), ("in ok", "out ok"), ((1, 0),), ((1, 0),)),
    (("leave", "keep good ever"), ("in ok", "out denied"), ((0, 1),), ((0, 1),)),
    (("leave", "keep good ever"), ("in fault", "out denied"), ((0, 1), (1, 0)), ()),
    (("leave", "keep good ever"), ("out denied", "in spare"), (), ()),
    (("keep good ever", "leave", "leave"), ("in ok", "out ok"), ((0, 1, 2), (0, 2, 1)), ((0, 1), (0, 2))),
    (("leave", "leave", "lend"), ("out denied",), ((0, 1, 2), (0, 2, 1), (1, 0, 2), (1, 2, 0)), ()),
    (("leave", "leave", "lend"), ("out fault",), ((2, 0, 1), (2, 1, 0)), ((2, 0), (2, 1))),
    (("soft all", "leave"), ("out spare", "in spare"), ((0, 1),), ((0, 1),)),
    (("soft all", "leave"), (), ((0, 1), (1, 0)), ()),
    (("soft all", "leave"), ("tick", "tick"), ((0, 1), (1, 0)), ()),
    (("limit 1", "soft fault", "tries 2 fault"), ("in late",), ((0, 1, 2),), ((0, 1), (0, 2), (1, 2))),
    (("keep good 0", "leave"), ("in ok", "tick", "out ok"), (), ()),
    (("keep good 1", "leave"), ("in ok", "tick", "out ok"), ((0, 1),), ((0, 1),)),
)


class FittingTest(unittest.TestCase):
    def assert_fitting(self, texts, log, orders, pairs):
        for kind in (list, tuple):
            told = fitting(kind(rows(*texts)), kind(log))
            self.assertEqual(told, orders, (texts, log))
            self.assertEqual({type(told), *map(type, told)}, {tuple})
            told = surely_outside(kind(rows(*texts)), kind(log))
            self.assertEqual(told, pairs, (texts, log))
            self.assertEqual({type(told), *map(type, told)}, {tuple})

    def test_by_hand(self):
        for case in FITTING:
            self.assert_fitting(*case)

    def test_by_other_means(self):
        choice = random.Random(9)
        kinds = set()
        for texts in [(), ("leave",), ("leave", "leave", "lend", "lend")] + lots(40):
            order = choice.sample(range(len(texts)), len(texts))
            log = some_log([texts[at] for at in order], 4, choice)
            for each in (log, log[:2], log[:3] + ["in late"], log[1:], ["out denied"] + log):
                orders = tuple(model.fitting(texts, each))
                self.assert_fitting(texts, each, orders, tuple(sorted(model.outside(orders))))
                kinds.add((len(texts), len(orders) > 1, bool(model.outside(orders))))
            self.assertIn(tuple(order), fitting(rows(*texts), log))
        for kind in ((4, True, True), (4, True, False), (4, False, False), (2, False, True)):
            self.assertIn(kind, kinds)

    def test_equal_rows_have_indexes_of_their_own(self):
        same = Leave()
        self.assert_fitting(["leave"] * 3, ["out denied"], tuple(itertools.permutations(range(3))), ())
        self.assertEqual(fitting([same, same], ["out denied"]), ((0, 1), (1, 0)))
        self.assertEqual(surely_outside([same, same], ["out denied"]), ())

    def test_arguments_by_name_that_stay(self):
        lot, log = rows("leave", "keep good ever"), ["in ok", "out ok"]
        self.assertEqual(fitting(log=log, lot=lot), ((1, 0),))
        self.assertEqual(surely_outside(log=log, lot=lot), ((1, 0),))
        self.assertEqual((lot, log), (rows("leave", "keep good ever"), ["in ok", "out ok"]))


class TellingTest(unittest.TestCase):
    def test_by_hand(self):
        for texts, first, second in (
            ((), None, None),
            (("leave",), None, None),
            (("count", "soft all"), None, None),
            (("leave", "leave"), None, None),
            (("keep all ever", "keep all ever", "keep all ever"), None, None),
            # At first the keeper has nothing, and all fits that does with leave alone.
            (("leave", "keep good ever"), None, ("in ok", "out denied")),
            (("keep all ever", "leave"), None, ("in fault", "out denied")),
            (("soft all", "leave"), ("out denied",), ("out denied",)),
            (("leave", "lend"), ("out denied",), ("out denied",)),
            (("limit 1", "soft fault", "tries 2 fault"), ("in late",), ("in late",)),
            (("limit 1", "tries 2 fault"), ("in fault",), ("in fault",)),
        ):
            for longest, expected in ((1, first), (2, second)):
                told = telling(rows(*texts), longest)
                self.assertEqual(told, expected, (texts, longest))
                self.assertIs(type(told), type(expected))
                self.assertEqual(telling(tuple(rows(*texts)), longest), expected)

    def test_by_other_means(self):
        kinds = set()
        for texts in [(), ("leave",)] + lots(36):
            for longest in (1, 2):
                expected = model.telling(texts, longest)
                self.assertEqual(telling(rows(*texts), longest), expected, (texts, longest))
                kinds.add((longest, expected and len(expected)))
        self.assertEqual(kinds, {(1, None), (1, 1), (2, None), (2, 1), (2, 2)})

    def test_fits_to_some_but_not_to_all(self):
        for texts in lots(60):
            lot = rows(*texts)
            told = telling(lot, 2)
            if told is not None:
                self.assertIn(len(fitting(lot, told)), range(1, len(fitting(lot, []))))
                self.assertNotIn("tick", told)

    def test_longer_logs(self):
        self.assertEqual(telling(rows("leave", "keep good ever"), 3), ("in ok", "out denied"))
        self.assertIs(telling(rows("count", "soft all"), 3), None)

    def test_arguments_by_name_that_stay(self):
        lot = rows("leave", "keep good ever")
        self.assertEqual(telling(longest=2, lot=lot), ("in ok", "out denied"))
        self.assertEqual(lot, rows("leave", "keep good ever"))
        self.assertEqual(telling(lot, 2), ("in ok", "out denied"))


class WrongTest(unittest.TestCase):
    def assert_no_log(self, at, log):
        for call in (lambda: fits(Stack(), log), lambda: first_misfit(Stack(), log),
                     lambda: fits(stack("leave", "keep all ever"), log), lambda: fitting([], log),
                     lambda: fitting(rows("leave", "count"), log), lambda: surely_outside([], log),
                     lambda: surely_outside((Leave(), Leave()), log)):
            with self.assertRaises(InvalidLog) as caught:
                call()
            self.assertEqual((type(caught.exception.at), caught.exception.at), (int, at))

    def test_no_sequences(self):
        for value in all_values() + ["in ok", "tick", {}, {"tick": "tick"}, {"tick"}, b"tick"]:
            if not isinstance(value, (list, tuple)):
                self.assert_no_log(0, value)

    def test_wrong_things_at_each_place(self):
        for value in list(NO_THINGS) + [value for value in all_values() if value != "tick"] + [["tick"], ("in ok",)]:
            self.assert_no_log(0, [value])
            for at in range(4):
                log = ["in ok", "tick", "out denied"]
                log.insert(at, value)
                self.assert_no_log(at, log)
                self.assert_no_log(at, tuple(log))
                # The first one is told.
                self.assert_no_log(at, log + [value, None])

    def test_wrong_behind_what_fits_no_more(self):
        self.assert_no_log(1, ["in late", "x"])
        self.assert_no_log(3, ["out spare", "in late", "tick", "tick "])

    def test_each_thing_is_right(self):
        for thing in THINGS:
            self.assertIs(fits(Stack(), [thing]), thing in ("tick", "in ok", "in fault", "out ok", "out fault"))
            self.assertEqual(len(fitting(rows("leave", "soft all"), [thing])) > 0,
                             thing not in ("in fault", "in late", "in denied", "out ok", "out fault", "out late"))

    def test_deep_values(self):
        self.assert_no_log(0, nested("tick", 8))
        self.assert_no_log(0, nested("tick", 2))

    def test_lots_ahead_of_logs(self):
        calls = []
        for log in ([], ["in ok"], None, "tick", ["x"], [None]):
            calls += [lambda lot, log=log: fitting(lot, log), lambda lot, log=log: surely_outside(lot, log)]
        for longest in (1, 2):
            calls.append(lambda lot, longest=longest: telling(lot, longest))
        for value in other_values() + made_rows()[:3] + [Stack([Leave()]), "leave", {}, {0: Leave()}]:
            wrong = [] if isinstance(value, (list, tuple)) else [(0, value)]
            if not isinstance(value, Row):
                for at in range(3):
                    lot = rows("leave", "count")
                    lot.insert(at, value)
                    wrong += [(at, lot), (at, tuple(lot) + (value,))]
            for at, lot in wrong:
                for call in calls:
                    with self.assertRaises(InvalidStack) as caught:
                        call(lot)
                    self.assertEqual((type(caught.exception.at), caught.exception.at), (int, at))


class LimitsTest(unittest.TestCase):
    def test_twelve_things_and_four_rows(self):
        for texts, log in (
            (("keep all 1", "tries 2 all", "tries 2 fault", "soft fault"), ["in ok", "tick", "tick"] * 4),
            (("keep all 0", "tries 2 all", "limit 2", "leave"), ["in fault", "out fault", "tick"] * 4),
            (("keep all 1", "keep good ever", "tries 2 all"), ["in fault", "out ok", "in ok"] * 4),
        ):
            orders = model.fitting(texts, log)
            self.assertEqual(list(fitting(rows(*texts), log)), orders)
            self.assertEqual(list(surely_outside(rows(*texts), log)), sorted(model.outside(orders)))

    def test_what_was_returned_may_be_passed_on(self):
        for texts in lots(20):
            told = telling(rows(*texts), 2)
            if told is not None:
                self.assertEqual(list(fitting(rows(*texts), told)), model.fitting(texts, told))


if __name__ == "__main__":
    unittest.main()
