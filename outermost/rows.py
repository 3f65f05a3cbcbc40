"""The rows: each is one wrapper with its settings."""

from outermost.errors import InvalidRow, InvalidText
from outermost.values import is_integer

KEPT_ANSWERS = ("good", "all")
LIVES = (0, 1, 2, 3)
MOST_ASKED = (1, 2, 3)
MOST_TRIES = (1, 2, 3, 4, 5, 6)
FAULTS = ("fault", "all")


class Row:
    """A wrapper. Only its subclasses are made."""

    @classmethod
    def read(cls, text):
        """The row with this text; InvalidText(0) if there is none."""
        # There are so few rows that trying them all is simpler than taking the text apart,
        # and it lets no text pass that is not exactly that of a row.
        for row in every_row():
            if str(row) == text:
                return row
        raise InvalidText(0)

    def words(self):
        """The words of the text. Each subclass has its own."""
        raise NotImplementedError("only the subclasses of Row are made")

    def __eq__(self, other):
        return isinstance(other, Row) and str(self) == str(other)

    def __str__(self):
        return " ".join(self.words())


class Keep(Row):
    """Keeps an answer and gives it again; a life of None is for ever."""

    def __init__(self, what="good", life=None):
        check_argument("what", what in KEPT_ANSWERS)
        check_argument("life", life is None or is_one_of(life, LIVES))
        self.what = what
        self.life = life

    def words(self):
        life = "ever" if self.life is None else str(self.life)
        return ("keep", self.what, life)


class Tries(Row):
    """Asks again after a fault, at most so many times altogether."""

    def __init__(self, many, on="fault"):
        check_argument("many", is_one_of(many, MOST_ASKED))
        check_argument("on", on in FAULTS)
        self.many = many
        self.on = on

    def words(self):
        return ("tries", str(self.many), self.on)


class Limit(Row):
    """Cuts after so many tries."""

    def __init__(self, many):
        check_argument("many", is_one_of(many, MOST_TRIES))
        self.many = many

    def words(self):
        return ("limit", str(self.many))


class Leave(Row):
    """Denies the caller without leave."""

    def words(self):
        return ("leave",)


class Soft(Row):
    """Answers a spare instead of a fault."""

    def __init__(self, on="fault"):
        check_argument("on", on in FAULTS)
        self.on = on

    def words(self):
        return ("soft", self.on)


class Count(Row):
    """Counts that it was asked."""

    def words(self):
        return ("count",)


class Lend(Row):
    """Asks below as for a caller with leave."""

    def words(self):
        return ("lend",)


def is_one_of(value, numbers):
    """Whether a value is one of these integers."""
    return is_integer(value) and value in numbers


def check_argument(word, is_right):
    """InvalidRow with the name of an argument that is not right."""
    if not is_right:
        raise InvalidRow(word)


def every_row():
    """All rows that can be made, each once."""
    keeps = [Keep(what, life) for what in KEPT_ANSWERS for life in (None, *LIVES)]
    tries = [Tries(many, on) for many in MOST_ASKED for on in FAULTS]
    limits = [Limit(many) for many in MOST_TRIES]
    softs = [Soft(on) for on in FAULTS]
    return [*keeps, *tries, *limits, *softs, Leave(), Count(), Lend()]
