"""The stacks: rows that lie round an inner function."""

from outermost.errors import InvalidStack, InvalidText, NoRow
from outermost.rows import Row
from outermost.values import is_sequence


class Stack:
    """Rows round an inner function, the outermost first."""

    def __init__(self, rows=()):
        self.rows = rows_of(rows)

    @classmethod
    def read(cls, text):
        """The stack with this text; InvalidText with the number of the first line that is none of a row."""
        if text == "":
            return cls()
        return cls(rows_in(text.split("\n")))

    def without(self, at):
        """This stack without the row at an index."""
        check_index(at, len(self.rows))
        return Stack(self.rows[:at] + self.rows[at + 1:])

    def swapped(self, at):
        """This stack with the row at an index and the next one exchanged."""
        check_index(at, len(self.rows) - 1)
        return Stack(exchanged(self.rows, at))

    def put(self, at, row):
        """This stack with one more row, which has this index then."""
        check_index(at, len(self.rows) + 1)
        rows = list(self.rows)
        rows.insert(at, row)
        return Stack(rows)

    def __add__(self, other):
        if not isinstance(other, Stack):
            raise TypeError("only a stack can be added to a stack")
        return Stack(self.rows + other.rows)

    def __len__(self):
        return len(self.rows)

    def __getitem__(self, at):
        check_index(at, len(self.rows))
        return self.rows[at]

    def __iter__(self):
        # Python would otherwise iterate by index.
        raise TypeError("a stack is not iterable")

    def __eq__(self, other):
        return isinstance(other, Stack) and str(self) == str(other)

    def __str__(self):
        return "\n".join([str(row) for row in self.rows])


def rows_of(value):
    """The rows of a sequence, as a tuple; InvalidStack with the index of the first thing that is no row."""
    if not is_sequence(value):
        raise InvalidStack(0)
    for at, row in enumerate(value):
        if not isinstance(row, Row):
            raise InvalidStack(at)
    return tuple(value)


def rows_in(lines):
    """The rows with these texts; InvalidText with the number of the first one that is none."""
    rows = []
    for at, line in enumerate(lines):
        try:
            rows.append(Row.read(line))
        except InvalidText:
            raise InvalidText(at) from None
    return rows


def check_index(at, many):
    """NoRow unless this is one of so many indexes. Those below 0 are none, though Python would count from the end."""
    if not 0 <= at < many:
        raise NoRow(at)


def exchanged(things, at):
    """A tuple with the thing at an index and the next one exchanged."""
    return (*things[:at], things[at + 1], things[at], *things[at + 2:])
