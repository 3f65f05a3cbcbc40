"""Values that several tests try."""

from outermost.errors import InvalidRow, NoRow, WrapError
from outermost.plays import play
from outermost.rows import Count, Keep, Leave, Lend, Limit, Soft, Tries
from outermost.stacks import Stack

ROW_TEXTS = (
    "keep good ever", "keep good 0", "keep good 1", "keep good 2", "keep good 3",
    "keep all ever", "keep all 0", "keep all 1", "keep all 2", "keep all 3",
    "tries 1 fault", "tries 2 fault", "tries 3 fault",
    "tries 1 all", "tries 2 all", "tries 3 all",
    "limit 1", "limit 2", "limit 3", "limit 4", "limit 5", "limit 6",
    "leave", "soft fault", "soft all", "count", "lend",
)

# Texts of no row, each one line.
NO_ROW_TEXTS = (
    "", " ", "  ", "keep", "tries", "limit", "soft", "row", "Leave", "LEAVE", "none", "bound 1",
    # words too many
    "leave leave", "leave 1", "leave fault", "count all", "lend in", "limit 1 fault", "limit 1 1",
    "soft fault all", "tries 1 fault all", "keep good ever ever", "keep good 1 1", "keep good all 1",
    # words too few: the defaults belong to the classes, not to the texts
    "keep good", "keep all", "keep ever", "keep 1", "tries 1", "tries fault", "tries all",
    # words exchanged, or of another row
    "keep ever good", "keep 1 all", "good keep ever", "tries fault 1", "1 tries fault", "1 limit", "fault soft",
    "keep fault ever", "soft good", "soft ever", "tries 1 good", "tries ever fault", "limit ever", "keep good None",
    "keep bad ever", "soft denied", "soft late", "tries 1 late", "soft 1", "limit fault", "keep Good ever",
    # other blanks
    " leave", "leave ", "keep  good ever", "keep good  ever", "tries  1 fault", "tries 1  fault", "limit  1",
    "soft  all", "limit 1 ", " limit 1", "keep good ever ", " keep good ever", "limit\t1", "leave\t", "limit1",
    # numbers out of the limits, or written otherwise
    "limit 0", "limit 7", "limit 10", "limit -1", "limit +1", "limit 01", "limit 1.0", "limit 1_0", "limit one",
    "tries 0 fault", "tries 4 fault", "tries -1 all", "tries +1 all", "tries 01 all", "tries 1.0 fault",
    "keep good 4", "keep good -1", "keep good +1", "keep good 00", "keep good 01", "keep all 10", "keep all +0",
    "keep all -0", "limit \u0661", "limit \u00b9", "limit True",
)


def made_rows():
    """Every row, made by its class, in the order of ROW_TEXTS."""
    return [
        Keep("good", None), Keep("good", 0), Keep("good", 1), Keep("good", 2), Keep("good", 3),
        Keep("all", None), Keep("all", 0), Keep("all", 1), Keep("all", 2), Keep("all", 3),
        Tries(1, "fault"), Tries(2, "fault"), Tries(3, "fault"),
        Tries(1, "all"), Tries(2, "all"), Tries(3, "all"),
        Limit(1), Limit(2), Limit(3), Limit(4), Limit(5), Limit(6),
        Leave(), Soft("fault"), Soft("all"), Count(), Lend(),
    ]


def nested(value, depth):
    """A value in so many lists and tuples by turns."""
    for level in range(depth):
        value = [value] if level % 2 else (value,)
    return value


def other_values():
    """Values of all kinds but rows, and but sequences that are empty or begin with a row."""
    return [
        0, 1, 2, 3, 4, 6, 7, -1, 10 ** 30, -10 ** 30, True, False, None,
        "", " ", "0", "1", "good", "all", "fault", "ever", "leave", "tick", "\n", "GOOD", "all ",
        [None], (0,), (1,), [True], ["good"], ("all", 1), ["leave"], [[]], ((),), [Stack()], [[Leave()]],
        nested(0, 8), nested("good", 8), nested(Leave(), 8),
        Stack(), Stack([Leave()]), InvalidRow("what"), NoRow(0), WrapError(), play(Stack(), ["in ok"]),
    ]


def all_values():
    """Values of all kinds."""
    return other_values() + made_rows() + [[], (), [Leave()], (Leave(), Count()), [Leave(), 1]]
