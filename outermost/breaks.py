"""The wishes, and which calls break them."""

from outermost.calls import BAD
from outermost.errors import InvalidWish
from outermost.values import is_sequence


def breaks_calm(call):
    """Whether the caller with leave gets a bad answer."""
    return call.caller == "in" and call.answer in BAD


def breaks_fresh(call):
    """Whether a keeper gives an answer behind a tick since it stored it."""
    return any([is_old for at, word, is_old in call.given])


def breaks_kept(call):
    """Whether a keeper gives a bad answer."""
    return any([word in BAD for at, word, is_old in call.given])


def breaks_leave(call):
    """Whether the caller without leave brings about a try, or gets an ok."""
    return call.caller == "out" and (call.tries > 0 or call.answer == "ok")


def breaks_once(call):
    """Whether a count does not count just once."""
    return any([many != 1 for many in call.counts if many is not None])


def breaks_spare(call):
    """Whether a keeper stores a spare."""
    return "spare" in call.stored


def breaks_tries(call):
    """Whether a count does not count as often as tries are made."""
    return any([many != call.tries for many in call.counts if many is not None])


# The wishes without a number, ascending.
WISHES = ("calm", "fresh", "kept", "leave", "once", "spare", "tries")

BREAKS = {
    "calm": breaks_calm,
    "fresh": breaks_fresh,
    "kept": breaks_kept,
    "leave": breaks_leave,
    "once": breaks_once,
    "spare": breaks_spare,
    "tries": breaks_tries,
}

BOUNDS = {"bound 1": 1, "bound 2": 2, "bound 3": 3, "bound 4": 4, "bound 5": 5, "bound 6": 6}


def breaks(call, wish):
    """Whether a call breaks a wish."""
    if wish in BOUNDS:
        return call.tries > BOUNDS[wish]
    is_broken = BREAKS[wish]
    return is_broken(call)


def is_wish(value):
    """Whether any value is a wish."""
    return isinstance(value, str) and (value in BREAKS or value in BOUNDS)


def check_wish(value):
    """InvalidWish for any value that is no wish."""
    if not is_wish(value):
        raise InvalidWish()


def check_wishes(value):
    """InvalidWish for any value that is no sequence of wishes."""
    if not is_sequence(value):
        raise InvalidWish()
    for wish in value:
        check_wish(wish)
