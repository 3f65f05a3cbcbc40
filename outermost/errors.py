"""The errors of the package.

Those with an argument leave the message to Python, which shows what they were
made with: the argument may be any thing, and so it may have no text of its own.
"""


class WrapError(ValueError):
    """The base class of all errors of the package but NoRow."""


class InvalidRow(WrapError):
    """An argument of a row is wrong; word is the name of its parameter."""

    def __init__(self, word):
        self.word = word


class InvalidStack(WrapError):
    """Something is no sequence of rows; at is the index of the first thing that is none."""

    def __init__(self, at):
        self.at = at


class InvalidText(WrapError):
    """A text is none of a row or a stack; at is the number of the first wrong line."""

    def __init__(self, at):
        self.at = at


class InvalidEvent(WrapError):
    """Something is no event, or none that can happen; at is its index."""

    def __init__(self, at):
        self.at = at


class InvalidWish(WrapError):
    """Something is no wish."""

    def __init__(self):
        super().__init__()


class InvalidOrder(WrapError):
    """Something is no order of a lot, or none that is good."""

    def __init__(self):
        super().__init__()


class InvalidLog(WrapError):
    """Something is no log; at is the index of the first wrong thing."""

    def __init__(self, at):
        self.at = at


class InvalidCommand(WrapError):
    """Something is no command, or none that can be done now."""

    def __init__(self):
        super().__init__()


class Refused(WrapError):
    """Several events were not done; at is the index of the first wrong one."""

    def __init__(self, at):
        self.at = at


class NoRow(IndexError):
    """A stack has no row at this index."""

    def __init__(self, at):
        self.at = at
