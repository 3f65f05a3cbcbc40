"""Desks: live stacks that are worked by commands."""

from outermost.breaks import WISHES, is_wish
from outermost.errors import InvalidCommand
from outermost.live import Live
from outermost.orders import is_one, outside
from outermost.rows import Row
from outermost.stacks import Stack
from outermost.wishes import breach, kept_wishes

DIGITS = ("0", "1", "2", "3", "4", "5", "6", "7", "8", "9")


def do_event(live, rest):
    """Does an event."""
    check_form(rest != "")
    answer = live.do(rest)
    return "-" if answer is None else answer


def put_row(live, rest):
    """Puts on a row at a place."""
    place, blank, text = rest.partition(" ")
    check_form(place in DIGITS and text != "")
    live.put(int(place), Row.read(text))
    return "put"


def take_off_row(live, rest):
    """Takes off the row at a place."""
    check_form(rest in DIGITS)
    live.take_off(int(rest))
    return "taken"


def swap_rows(live, rest):
    """Exchanges the row at a place and the next one."""
    check_form(rest in DIGITS)
    live.swap(int(rest))
    return "swapped"


def tell_wishes(live, rest):
    """The wishes that the stack keeps."""
    check_form(rest == "")
    return " ".join(kept_wishes(live.stack)) or "none"


def tell_breach(live, rest):
    """Shortest events that break a wish."""
    check_form(is_wish(rest))
    events = breach(live.stack, rest)
    return "never" if events is None else ", ".join(events)


def tell_outside(live, rest):
    """What must stand outside what for some wishes."""
    wishes = rest.split(" ")
    check_form(all([wish in WISHES for wish in wishes]))
    lot = live.stack.rows
    if not is_one(lot, wishes):
        return "clash"
    return ", ".join([f"{i} {j}" for i, j in outside(lot, wishes)]) or "none"


def undo_last(live, rest):
    """Takes back the last deed."""
    check_form(rest == "")
    return "undone" if live.undo() else "nothing"


# The commands for which there must be a live thing: each is done with it and with the words behind the first one.
COMMANDS = {
    "do": do_event,
    "put": put_row,
    "off": take_off_row,
    "swap": swap_rows,
    "wishes": tell_wishes,
    "breach": tell_breach,
    "outside": tell_outside,
    "undo": undo_last,
}


class Desk:
    """Does commands to a live stack, which the first one brings."""

    def __init__(self):
        self.live = None

    def say(self, command):
        """What a command tells; InvalidCommand for any value that is none, or none that can be done now."""
        check_form(isinstance(command, str) and "\n" not in command and "" not in command.split(" "))
        word, blank, rest = command.partition(" ")
        if word == "stack":
            return self.begin(rest)
        check_form(self.live is not None and word in COMMANDS)
        action = COMMANDS[word]
        return action(self.live, rest)

    def begin(self, rest):
        """Begins with a new stack; the number of its rows."""
        check_form(rest != "")
        stack = Stack.read(rest.replace(" ; ", "\n"))
        self.live = Live(stack)
        return str(len(stack))


def check_form(is_right):
    """InvalidCommand if a command is not of its form."""
    if not is_right:
        raise InvalidCommand()
