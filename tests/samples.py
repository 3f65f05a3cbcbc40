"""Stacks and lots that several tests try, as tuples of texts. The same ones each time."""

import random

from outermost.rows import Row
from outermost.stacks import Stack
from tests.values import ROW_TEXTS


def stack(*texts):
    """The stack with these rows."""
    return Stack.read("\n".join(texts))


def rows(*texts):
    """The rows with these texts."""
    return [Row.read(text) for text in texts]


def is_within_limits(texts, most_rows):
    """Whether a stack (of up to 6 rows) or a lot (of up to 4) is within the limits of the document."""
    keeps = [text for text in texts if text.startswith("keep")]
    tries = [text for text in texts if text.startswith("tries")]
    if len(texts) > most_rows or len(keeps) > 2 or len(tries) > 2:
        return False
    is_strict = most_rows == 4 or len(keeps) == 2
    if is_strict and any(text[-1] in "23" for text in keeps):
        return False
    if is_strict and any(text.startswith("tries 3") for text in tries):
        return False
    return not (most_rows == 4 and len(keeps) == 2 and len(texts) > 3)


def some(many, sizes, most_rows):
    """So many stacks or lots within the limits, of these sizes in turn."""
    choice = random.Random(1126)
    found = []
    while len(found) < many:
        texts = tuple(choice.choice(ROW_TEXTS) for place in range(sizes[len(found) % len(sizes)]))
        # Limits with great numbers cut seldom.
        texts = tuple("limit 2" if text in ("limit 5", "limit 6") else text for text in texts)
        if is_within_limits(texts, most_rows):
            found.append(texts)
    return found


def small_stacks():
    """All stacks of up to two rows."""
    ones = [(text,) for text in ROW_TEXTS]
    return [()] + ones + [one + other for one in ones for other in ones]


def large_stacks(many):
    """So many stacks of three to six rows."""
    return some(many, (3, 4, 5, 6), 6)


def lots(many):
    """So many lots of two to four rows."""
    return some(many, (2, 3, 4), 4)
