"""Papers: standings that show that a stack keeps a wish."""

from outermost.breaks import breaks, check_wish
from outermost.calls import ANSWERS, calls_from, may_store, ticked
from outermost.plays import begun
from outermost.rows import Keep
from outermost.values import is_integer
from outermost.wishes import keeps, standings


def paper(stack, wish):
    """Some right paper; None if the stack does not keep the wish."""
    if not keeps(stack, wish):
        return None
    return standings(stack)


def paper_holds(stack, wish, value):
    """Whether any value is a right paper."""
    check_wish(wish)
    if not isinstance(value, tuple):
        return False
    if not all([is_standing(stack, thing) for thing in value]):
        return False
    known = {standing: True for standing in value}
    return begun(stack) in known and all([is_safe(stack, wish, standing, known) for standing in list(known)])


def is_safe(stack, wish, standing, known):
    """Whether each event from a standing leads to a known one, and no call breaks the wish."""
    if ticked(standing) not in known:
        return False
    for call in calls_from(stack, standing):
        if call.behind not in known or breaks(call, wish):
            return False
    return True


def is_standing(stack, value):
    """Whether any value has the form of a standing of a stack."""
    if not isinstance(value, tuple) or len(value) != len(stack.rows):
        return False
    return all([is_held(row, thing) for row, thing in zip(stack.rows, value)])


def is_held(row, value):
    """Whether any value can stand for a row in a standing."""
    if value is None:
        return True
    if not isinstance(row, Keep) or not isinstance(value, tuple) or len(value) != 3:
        return False
    word, left, is_old = value
    return word in ANSWERS and may_store(row, word) and is_left(row.life, left) and isinstance(is_old, bool)


def is_left(life, value):
    """Whether any value tells how many ticks an answer with this life may still stay."""
    if life is None:
        return value is None
    return is_integer(value) and 0 <= value <= life
