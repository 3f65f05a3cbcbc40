"""Promises [21] and [22]: the desks; and [1] to [3] as far as they speak about them."""

import random
import re
import unittest

from outermost.desk import Desk
from outermost.errors import InvalidCommand, InvalidEvent, InvalidText, NoRow
from outermost.live import Live
from tests import model
from tests.samples import large_stacks
from tests.values import NO_ROW_TEXTS, ROW_TEXTS, all_values

WORDS = ("calm", "fresh", "kept", "leave", "once", "spare", "tries")

# Strings that are never a command, whatever there is.
NO_COMMANDS = (
    "", " ", "  ", "\n", "stack\n", "none", "live", "say", "Stack count", "STACK count", "stack", "stacks count",
    "stackcount", "stack ", " stack count", "stack count ", "stack  count", "stack count\n", "stack count\nleave",
    "stack\ncount", "stack count ;  ; leave", "stack count ; ", "stack  ; count", "count", "leave", "tick", "in ok", "out",
    "do", "do ", "do  tick", "do tick ", " do tick", "do tick\n", "do\ntick", "do in  ok", "DO tick", "Do tick", "done",
    "put", "put ", "put 0", "put 0 ", "put  0 count", "put 0  count", "put 0 count ", " put 0 count", "put count",
    "put count 0", "put 00 count", "put 10 count", "put 01 count", "put -1 count", "put +1 count", "put -0 count",
    "put a count", "put 0.0 count", "put 1_0 count", "put count count", "put 0\ncount", "put 0 count\n", "Put 0 count",
    "put 0 keep  good ever", "put 0 keep good ever ", "put \u0661 count", "put \u00b2 count", "put 012 count",
    "off", "off ", "off  0", "off 0 ", " off 0", "off 0 0", "off 00", "off 01", "off 10", "off -1", "off +1", "off -0",
    "off a", "off 0.0", "off 0\n", "off\n0", "OFF 0", "off count", "off 0 count", "off \u0660", "off \u00b9", "take_off 0",
    "swap", "swap ", "swap  0", "swap 0 ", " swap 0", "swap 0 0", "swap 0 1", "swap 00", "swap 01", "swap 10", "swap -1",
    "swap +1", "swap a", "swap 0\n", "Swap 0", "swap \u0660", "taken", "swapped",
    "wishes ", " wishes", "wishes\n", "Wishes", "wish", "wishes calm", "wishes 0", "wishes wishes", "wishes none",
    "breach", "breach ", "breach  calm", "breach calm ", " breach calm", "breach calm\n", "Breach calm", "breach Calm",
    "breach calm calm", "breach calm kept", "breach bound", "breach bound 0", "breach bound 7", "breach bound 10",
    "breach bound 01", "breach bound -1", "breach bound +1", "breach bound  1", "breach bound 1 ", "breach bound 1 1",
    "breach bound one", "breach bound 1 calm", "breach calm bound 1", "breach 1", "breach none", "breach never",
    "breach bound1", "breach tick", "breach bound \u0661", "breach limit 1", "breach count",
    "outside", "outside ", "outside  calm", "outside calm ", " outside calm", "outside calm  kept", "outside calm\n",
    "outside Calm", "Outside calm", "outside bound 1", "outside bound", "outside calm bound 1", "outside bound 1 calm",
    "outside calm none", "outside none", "outside calm, kept", "outside calm,kept", "outside 0", "outside calm 1",
    "outside 0 1", "outside calm kept leave once x", "outside tick", "outside clash",
    "undo ", " undo", "undo\n", "Undo", "UNDO", "undo 1", "undo undo", "undone", "redo", "nothing",
)

# Commands that are right, but for which there must be a live thing.
LIVE_COMMANDS = (
    "do tick", "do in ok", "do x", "put 0 count", "put 0 x", "put 9 count", "off 0", "off 9", "swap 0", "swap 9", "wishes",
    "breach calm", "breach bound 1", "outside calm", "outside calm kept", "undo",
)


def facts(desk):
    """All that a desk has."""
    live = desk.live
    return None if live is None else (id(live), str(live.stack), live.standing, live.events, len(live))


def desk_with(*texts):
    """A desk with a live stack of these rows."""
    desk = Desk()
    desk.say("stack " + " ; ".join(texts))
    return desk


class DeskCase(unittest.TestCase):
    def assert_says(self, desk, *talk):
        """Commands and the answers to them, by turns."""
        for command, answer in zip(talk[::2], talk[1::2], strict=True):
            told = desk.say(command)
            self.assertEqual((type(told), told), (str, answer), command)

    def assert_error(self, desk, command, error, *at):
        before = facts(desk)
        with self.assertRaises(error) as caught:
            desk.say(command)
        self.assertIs(type(caught.exception), error)
        if at:
            self.assertEqual((type(caught.exception.at), caught.exception.at), (int, *at))
        self.assertEqual(facts(desk), before)


class StackTest(DeskCase):
    def test_ahead_of_the_first_stack(self):
        desk = Desk()
        self.assertEqual(vars(desk), {"live": None})
        self.assertIs(desk.live, None)
        for command in LIVE_COMMANDS:
            self.assert_error(desk, command, InvalidCommand)
        self.assertIs(desk.live, None)

    def test_number_of_rows(self):
        for texts in [(text,) for text in ROW_TEXTS] + large_stacks(30):
            desk = Desk()
            self.assert_says(desk, "stack " + " ; ".join(texts), str(len(texts)))
            self.assertIsInstance(desk.live, Live)
            self.assertEqual(facts(desk)[1:], ("\n".join(texts), (None,) * len(texts), (), 0))

    def test_ten_rows(self):
        self.assert_says(Desk(), "stack count" + 9 * " ; count", "10")

    def test_semicolons(self):
        for text, at in (
            (";", 0), ("; count", 0), ("count ;", 0), ("count;leave", 0), ("count ;leave", 0), ("count; leave", 0),
            ("count ; ; leave", 1), ("count ; leave ;", 1), ("; ; count", 0), ("count ; ; ; leave", 1), ("; ;", 0),
            ("count ; leave ; ;", 2), (";;", 0), ("count ;; leave", 0), ("leave ; count ; x", 2), ("x ; y", 0),
        ):
            for desk in (Desk(), desk_with("leave")):
                self.assert_error(desk, "stack " + text, InvalidText, at)
        self.assert_says(Desk(), "stack count ; leave ; keep good ever", "3")

    def test_texts_of_no_rows(self):
        for text in NO_ROW_TEXTS:
            if text and "" not in text.split(" "):
                for desk in (Desk(), desk_with("keep all ever")):
                    self.assert_error(desk, "stack " + text, InvalidText, 0)
                    self.assert_error(desk, "stack count ; " + text, InvalidText, 1)
                    self.assert_error(desk, f"stack count ; leave ; {text} ; {text}", InvalidText, 2)

    def test_a_new_stack_over_an_old_one(self):
        desk = desk_with("keep all ever")
        self.assert_says(desk, "do in fault", "fault", "put 0 count", "put")
        old = desk.live
        self.assert_says(desk, "stack keep all ever", "1")
        self.assertIsNot(desk.live, old)
        self.assertEqual(facts(desk)[1:], ("keep all ever", (None,), (), 0))
        self.assert_says(desk, "undo", "nothing", "do in ok", "ok")
        self.assertEqual((str(old.stack), old.events, len(old)), ("count\nkeep all ever", ("in fault",), 2))

    def test_two_desks(self):
        first, second = Desk(), Desk()
        self.assert_says(first, "stack count", "1")
        self.assertIs(second.live, None)
        self.assert_says(second, "stack leave ; count", "2", "off 0", "taken")
        self.assertEqual(str(first.live.stack), "count")

    def test_no_rows_left(self):
        desk = desk_with("count")
        self.assert_says(
            desk, "off 0", "taken", "wishes", "fresh kept once spare tries", "do in fault", "fault", "outside once", "none",
            "outside calm", "none", "breach calm", "in fault", "put 0 soft all", "put", "do in fault", "spare",
        )


class LiveCommandsTest(DeskCase):
    def test_do(self):
        desk = desk_with("keep all 1", "tries 2 fault", "leave", "limit 1", "soft all")
        self.assert_says(
            desk, "do tick", "-", "do in fault", "spare", "do tick", "-", "do out", "spare", "do tick", "-", "do out",
            "denied", "do in", "denied", "do tick", "-", "do tick", "-", "do in ok", "ok",
        )
        self.assertEqual(desk.live.events, ("tick", "in fault", "tick", "out", "tick", "out", "in", "tick", "tick", "in ok"))
        self.assertEqual((desk.live.standing[0], len(desk.live)), (("ok", 1, False), 10))
        desk = desk_with("limit 1", "tries 2 fault")
        self.assert_says(desk, "do in fault", "late", "do out ok", "ok")
        desk = desk_with("tries 3 fault")
        self.assert_says(desk, "do in fault fault ok", "ok", "do out fault fault fault", "fault")

    def test_do_what_is_no_event(self):
        events = ["in", "in ok ok", "x", "ok", "tick tick", "tick ok", "in spare", "In ok", "in fault fault", "-", "; ;", "0"]
        for event in events + ["in ok ; in ok", "in ok;", "in ok,", "in late", "out out", "Tick", "none"]:
            desk = desk_with("leave")
            self.assert_error(desk, "do " + event, InvalidEvent, 0)
            self.assert_says(desk, "do in ok", "ok", "put 1 count", "put", "do tick", "-")
            self.assert_error(desk, "do " + event, InvalidEvent, 2)

    def test_put(self):
        for text in ROW_TEXTS:
            for at in range(3):
                desk = desk_with("leave", "count")
                self.assert_says(desk, f"put {at} {text}", "put")
                texts = ["leave", "count"]
                texts.insert(at, text)
                self.assertEqual(facts(desk)[1:], ("\n".join(texts), (None,) * 3, (), 1))
        desk = desk_with("keep all ever")
        self.assert_says(desk, "do in ok", "ok", "put 0 keep good 1", "put", "put 2 leave", "put")
        self.assertEqual(desk.live.standing, (None, ("ok", None, False), None))

    def test_put_at_nine(self):
        desk = desk_with(*["count"] * 9)
        self.assert_says(desk, "put 9 leave", "put", "swap 8", "swapped", "off 9", "taken", "off 8", "taken")
        self.assertEqual(str(desk.live.stack), "\n".join(["count"] * 8))
        self.assert_error(desk, "off 8", NoRow, 8)
        self.assert_error(desk, "swap 7", NoRow, 7)

    def test_put_where_none_is(self):
        for many in range(1, 9):
            desk = desk_with(*["count"] * many)
            for at in range(many + 1, 10):
                self.assert_error(desk, f"put {at} leave", NoRow, at)
                # What is no row is told ahead of a place that is none.
                self.assert_error(desk, f"put {at} leave 1", InvalidText, 0)
            for at in range(many, 10):
                self.assert_error(desk, f"off {at}", NoRow, at)
                self.assert_error(desk, f"swap {at}", NoRow, at)
            self.assert_error(desk, f"swap {many - 1}", NoRow, many - 1)

    def test_put_what_is_no_row(self):
        for text in NO_ROW_TEXTS:
            if text and "" not in text.split(" "):
                desk = desk_with("leave", "count")
                for at in (0, 1, 2, 3, 9):
                    self.assert_error(desk, f"put {at} {text}", InvalidText, 0)
        for text in ("0 count", "count ; leave", "count ;", "; count", ";"):
            self.assert_error(desk_with("leave"), f"put 0 {text}", InvalidText, 0)

    def test_off_and_swap(self):
        desk = desk_with("leave", "keep good ever", "count")
        self.assert_says(desk, "do in ok", "ok", "swap 0", "swapped")
        self.assertEqual(facts(desk)[1:3], ("keep good ever\nleave\ncount", (("ok", None, False), None, None)))
        self.assert_says(desk, "do out", "ok", "off 1", "taken", "swap 0", "swapped")
        self.assertEqual(facts(desk)[1:3], ("count\nkeep good ever", (None, ("ok", None, False))))
        self.assert_says(desk, "off 1", "taken", "do in fault", "fault")
        self.assertEqual(facts(desk)[1:], ("count", (None,), ("in ok", "out", "in fault"), 7))

    def test_undo(self):
        desk = desk_with("keep all ever", "leave")
        self.assert_says(desk, "undo", "nothing")
        states = [facts(desk)]
        for command, answer in (("do out", "denied"), ("put 2 count", "put"), ("swap 0", "swapped"), ("do out", "denied"),
                                ("do in", "denied"), ("off 0", "taken"), ("do tick", "-")):
            self.assert_says(desk, command, answer)
            states.append(facts(desk))
        while len(states) > 1:
            self.assertEqual(facts(desk), states.pop())
            self.assert_says(desk, "undo", "undone")
        self.assertEqual(facts(desk), states[0])
        self.assert_says(desk, "undo", "nothing", "undo", "nothing")
        self.assertEqual(facts(desk), states[0])

    def test_undo_of_what_was_done_without_the_desk(self):
        desk = desk_with("keep all ever")
        desk.live.several(["in ok", "tick"])
        self.assert_says(desk, "do in", "ok", "undo", "undone", "undo", "undone", "undo", "nothing", "do in fault", "fault")


class AskingTest(DeskCase):
    def test_wishes(self):
        for texts, answer in (
            (("leave",), "fresh kept leave once spare tries"), (("count",), "fresh kept once spare tries"),
            (("leave", "soft all", "count", "limit 2", "tries 3 all"), "calm fresh kept leave spare"),
            (("keep all 1", "tries 2 fault", "count"), "spare tries"),
            (("soft all", "keep good 0"), "calm fresh kept once spare tries"),
            (("leave", "soft all"), "calm fresh kept leave once spare tries"),
            (("keep good ever", "leave", "count", "tries 2 fault"), "kept spare"),
            (("keep all 1", "soft fault", "tries 2 fault", "count"), "calm kept tries"),
            (("keep all ever", "count", "leave", "soft all"), "none"),
            (("keep all ever", "soft fault", "count", "leave"), "none"),
        ):
            self.assert_says(desk_with(*texts), "wishes", answer)

    def test_breach(self):
        for texts, wish, answers in (
            (("keep good ever", "leave"), "leave", {"in ok, out"}),
            (("leave", "keep good ever"), "leave", {"never"}),
            (("leave", "keep good ever"), "fresh", {"in ok, tick, in"}),
            (("leave", "keep good 0"), "fresh", {"never"}),
            (("leave", "keep all ever", "soft fault"), "spare", {"in fault"}),
            (("keep all ever", "leave", "soft all"), "kept", {"out, in", "out, out"}),
            (("leave", "tries 3 fault"), "bound 2", {"in fault fault ok", "in fault fault fault"}),
            (("leave", "tries 3 fault"), "bound 3", {"never"}),
            (("leave", "tries 2 fault"), "bound 1", {"in fault ok", "in fault fault"}),
            (("leave", "tries 2 fault"), "bound 6", {"never"}),
            (("leave", "count"), "calm", {"in fault"}), (("count", "leave"), "once", {"never"}),
            (("leave", "count"), "once", {"out"}), (("count", "leave"), "tries", {"out"}),
        ):
            desk = desk_with(*texts)
            answer = desk.say("breach " + wish)
            self.assertIn(answer, answers, (texts, wish))
            # Of the stack, however it stands.
            self.assert_says(desk, "do tick", "-", "breach " + wish, answer)

    def test_outside(self):
        for texts, wishes, answer in (
            (("leave", "keep good ever"), "leave", "0 1"), (("keep good ever", "leave"), "leave", "1 0"),
            (("keep all ever", "leave", "soft all"), "kept leave", "0 2, 1 0, 1 2"),
            (("keep all ever", "leave", "soft all"), "leave kept leave", "0 2, 1 0, 1 2"),
            (("keep all ever", "leave", "soft all"), "kept", "clash"),
            (("keep all ever", "leave", "soft all"), "leave", "1 0"),
            (("soft fault", "tries 2 fault", "limit 1"), "calm", "clash"),
            # No order is good, all orders are good.
            (("soft fault", "tries 2 fault", "limit 1"), "leave", "none"),
            (("count", "leave", "lend"), "fresh spare", "none"),
            (("count",), "once", "none"), (("count",), "calm", "none"),
            (("leave", "leave", "keep good ever"), "leave", "clash"),
            (("count", "tries 2 fault"), "tries", "1 0"), (("count", "tries 2 fault"), "once", "0 1"),
            (("count", "tries 2 fault"), "tries once", "none"),
            (("keep good ever", "leave", "soft all", "count"), "once leave", "1 0, 3 0, 3 1"),
        ):
            desk = desk_with(*texts)
            self.assert_says(desk, "outside " + wishes, answer, "do tick", "-", "outside " + wishes, answer)

    def test_the_stack_as_it_is_now(self):
        desk = desk_with("keep good ever")
        self.assert_says(
            desk, "breach leave", desk_with("keep good ever").say("breach leave"), "outside leave", "none",
            "put 1 leave", "put", "breach leave", "in ok, out", "outside leave", "1 0", "wishes", "kept once spare tries",
            "swap 0", "swapped", "breach leave", "never", "outside leave", "0 1", "wishes", "kept leave once spare tries",
            "off 0", "taken", "outside leave", "none", "wishes", "kept once spare tries", "undo", "undone",
            "outside leave", "0 1", "undo", "undone", "outside leave", "1 0",
        )

    def test_asking_changes_nothing(self):
        desk = desk_with("keep all 1", "leave", "soft all")
        desk.say("do out")
        desk.say("put 3 count")
        before = facts(desk)
        for command in ("wishes", "breach kept", "breach bound 1", "outside kept leave", "outside kept"):
            told = desk.say(command)
            self.assertEqual(facts(desk), before)
            self.assertEqual(desk.say(command), told)
        self.assert_says(desk, "undo", "undone", "undo", "undone", "undo", "nothing")


class NoCommandTest(DeskCase):
    def assert_no_command(self, value):
        used = desk_with("keep all ever", "count")
        used.say("do in ok")
        for desk in (Desk(), desk_with("leave", "soft all"), used):
            self.assert_error(desk, value, InvalidCommand)

    def test_any_values(self):
        commands = ["undo", "wishes", "stack count"]
        for value in all_values() + [commands, *([command] for command in commands), ("undo",), b"undo", {"undo"}, {}]:
            self.assert_no_command(value)

    def test_strings(self):
        for text in NO_COMMANDS:
            self.assert_no_command(text)

    def test_spoilt(self):
        for command in LIVE_COMMANDS + ("stack count", "stack count ; leave"):
            for text in (" " + command, command + " ", command + "\n", "\n" + command, command.replace(" ", "  ", 1) + " ",
                         command.upper(), command.replace(" ", "\n", 1) + "\n", command.replace(" ", "\t") + "\t",
                         "x " + command, command[1:], command + "\n" + command):
                self.assert_no_command(text)

    def test_right_ones(self):
        for command in LIVE_COMMANDS:
            desk = desk_with("count", "leave")
            try:
                desk.say(command)
            except (InvalidEvent, InvalidText, NoRow):
                pass

    def test_wrong_form_ahead_of_other_errors(self):
        # The places are none, and the texts are none of rows.
        for command in ("put 10 x", "put x x", "put 9", "off 9 9", "swap 99", "do  x", "put 9  x", "stack x  y", "stack x\n"):
            self.assert_no_command(command)

    def test_bound_is_for_breach_only(self):
        desk = desk_with("leave")
        for many in range(1, 7):
            self.assert_error(desk, f"outside bound {many}", InvalidCommand)
            self.assert_error(desk, f"outside calm bound {many}", InvalidCommand)
            self.assert_says(desk, f"breach bound {many}", "never")

    def test_each_place(self):
        for at in range(10):
            desk = desk_with(*["count"] * 10)
            self.assert_says(desk, f"put {at} leave", "put", f"off {at}", "taken", f"off {at}", "taken", "undo", "undone",
                             f"swap {min(at, 8)}", "swapped")
        for at in (10, 11, 99, -1):
            for command in (f"put {at} leave", f"off {at}", f"swap {at}"):
                self.assert_error(desk_with(*["count"] * 12), command, InvalidCommand)


class Clerk:
    """A desk once more, by other means: regular expressions for the commands, and the model for what they do."""

    FORMS = {
        "stack": r"stack((?: [^ \n]+)+)", "do": r"do((?: [^ \n]+)+)", "put": r"put ([0-9])((?: [^ \n]+)+)", "off": r"off ([0-9])",
        "swap": r"swap ([0-9])", "wishes": r"wishes", "undo": r"undo", "outside": rf"outside((?: (?:{'|'.join(WORDS)}))+)",
        "breach": rf"breach ({'|'.join(WORDS)}|bound [1-6])",
    }

    def __init__(self):
        self.work = None

    def say(self, command):
        """The answer; or an error and its argument, if it has one."""
        for word, form in self.FORMS.items():
            match = re.fullmatch(form, command)
            if match and (word == "stack" or self.work):
                return getattr(self, word)(*match.groups())
        return (InvalidCommand,)

    def texts(self):
        return [text for text, kept in self.work.pairs]

    def stack(self, text):
        texts = text[1:].split(" ; ")
        for at, each in enumerate(texts):
            if each not in ROW_TEXTS:
                return (InvalidText, at)
        self.work = model.Work(texts)
        return str(len(texts))

    def do(self, event):
        if event[1:] not in self.work.possible():
            return (InvalidEvent, len(self.work.events))
        self.work.deed()
        return self.work.happen(event[1:]) or "-"

    def put(self, at, text):
        if text[1:] not in ROW_TEXTS:
            return (InvalidText, 0)
        if int(at) > len(self.work.pairs):
            return (NoRow, int(at))
        self.work.deed()
        self.work.pairs.insert(int(at), [text[1:], None])
        return "put"

    def off(self, at):
        if int(at) >= len(self.work.pairs):
            return (NoRow, int(at))
        self.work.deed()
        del self.work.pairs[int(at)]
        return "taken"

    def swap(self, at):
        if int(at) + 1 >= len(self.work.pairs):
            return (NoRow, int(at))
        self.work.deed()
        self.work.pairs.insert(int(at), self.work.pairs.pop(int(at) + 1))
        return "swapped"

    def undo(self):
        return "undone" if self.work.undo() else "nothing"

    def wishes(self):
        return " ".join(sorted(model.kept(self.texts(), WORDS))) or "none"

    def breach(self, wish):
        """How many events are told; or never."""
        return model.Facts(self.texts()).breach_lengths.get(wish, "never")

    def outside(self, wishes):
        found = model.good(self.texts(), wishes.split())
        if not model.is_one(len(self.texts()), found):
            return "clash"
        return ", ".join(f"{i} {j}" for i, j in sorted(model.outside(found))) or "none"


class ModelTest(DeskCase):
    def command(self, clerk, choice):
        """A command, chosen at random, that is often right, with what is often right behind it."""
        number = str(choice.randint(0, 4))
        row = choice.choice(("leave", "count", "soft all", "soft fault", "keep all ever", "keep good 1", "limit 1",
                             "tries 2 fault", "lend", "keep all 0"))
        event = choice.choice(clerk.work.possible() if clerk.work else ["tick"])
        wish = choice.choice(WORDS)
        command = choice.choice((
            f"stack {row}", f"stack {row} ; leave ; {row}", f"stack soft all ; {row}", f"do {event}", f"do {event}",
            f"do {event}", "do tick", f"put {number} {row}", f"off {number}", f"swap {number}", "undo", "wishes",
            f"breach {wish}", f"breach bound {number}", f"outside {wish}", f"outside {wish} {choice.choice(WORDS)}",
        ))
        if choice.random() < 0.2:
            at = choice.randint(0, len(command))
            command = command[:at] + choice.choice((" ", "\n", "0", "x", " ; ", " calm", ";")) + command[at:]
        elif choice.random() < 0.1:
            at = choice.randrange(len(command))
            command = command[:at] + command[at + 1:]
        return command

    def test_forty_commands(self):
        choice = random.Random(13)
        told = set()
        for number in range(40):
            desk, clerk = Desk(), Clerk()
            for place in range(40):
                command = self.command(clerk, choice)
                # Within the limits of lots.
                if clerk.work and len(clerk.work.pairs) > 2 and command.startswith(("put", "outside")):
                    continue
                if clerk.work and sum(text.startswith("keep") for text in clerk.texts()) > 1 and "put" in command:
                    continue
                expected = clerk.say(command)
                told.add((command.split(" ")[0], expected[0] if isinstance(expected, tuple) else "told"))
                if isinstance(expected, tuple):
                    self.assert_error(desk, command, *expected)
                elif isinstance(expected, int):
                    events = desk.say(command).split(", ")
                    self.assertEqual(len(events), expected)
                    broken = self.broken(clerk.texts(), events)
                    self.assertEqual(broken.get(command.partition(" ")[2]), expected - 1, command)
                else:
                    self.assert_says(desk, command, expected)
                self.assertEqual(facts(desk) and facts(desk)[1:], clerk.work and clerk.work.facts())
        for word in ("stack", "do", "put", "off", "swap", "wishes", "breach", "outside", "undo"):
            self.assertIn((word, "told"), told)
            self.assertIn((word, InvalidCommand), told)
        self.assertLessEqual({("stack", InvalidText), ("put", InvalidText), ("do", InvalidEvent), ("put", NoRow),
                              ("off", NoRow), ("swap", NoRow)}, told)

    def broken(self, texts, events):
        """The wishes that are broken by some events, each with the number of the first one that breaks it."""
        standing, found = model.begun(texts), {}
        for number, event in enumerate(events):
            if event == "tick":
                standing = model.ticked(standing)
                continue
            caller, *outcomes = event.split(" ")
            run = model.Run(texts, standing, caller, outcomes)
            standing = run.behind
            for wish in WORDS + model.BOUNDS:
                if model.breaks(run, wish):
                    found.setdefault(wish, number)
        return found


class LimitsTest(DeskCase):
    def test_forty_deeds(self):
        desk = desk_with("keep all 1", "tries 2 all", "keep all 1", "tries 2 all", "count", "leave")
        for number in range(10):
            self.assert_says(desk, "do tick", "-", "swap 0", "swapped", "put 6 count", "put", "off 6", "taken")
        self.assertEqual(len(desk.live), 40)
        for number in range(40):
            self.assert_says(desk, "undo", "undone")
        self.assert_says(desk, "undo", "nothing")

    def test_large_stacks(self):
        for texts in large_stacks(12) + [("keep all 1", "tries 2 all", "keep all 1", "tries 2 all", "count", "leave")]:
            desk = desk_with(*texts)
            self.assert_says(desk, "wishes", " ".join(sorted(model.kept(texts, WORDS))) or "none")

    def test_long_texts(self):
        desk = Desk()
        self.assert_error(desk, "stack " + "x" * 990, InvalidText, 0)
        self.assert_error(desk, "x" * 1000, InvalidCommand)
        self.assert_error(desk, "stack " + "; " * 490 + ";", InvalidText, 0)
        self.assert_says(desk, "stack leave", "1")
        self.assert_error(desk, "do in" + " ok" * 300, InvalidEvent, 0)
        self.assert_error(desk, "put 0 " + "x " * 490 + "x", InvalidText, 0)


if __name__ == "__main__":
    unittest.main()
