"""Lots: which rows are wanted for some wishes, and which ones change nothing."""

from outermost.breaks import check_wishes
from outermost.orders import good
from outermost.stacks import rows_of
from outermost.wishes import kept_of


def enough(must, spares, wishes):
    """The first of the smallest sets of spares that, put to the others, have a good order; None if there is none."""
    rows = rows_of(must)
    more = rows_of(spares)
    check_wishes(wishes)
    for chosen in sets_of(len(more)):
        if good((*rows, *[more[index] for index in chosen]), wishes):
            return chosen
    return None


def needless(stack, wishes):
    """The indexes of the rows without which, each alone, a stack keeps the same wishes, ascending."""
    return places_that_change_nothing(stack, wishes, lambda at: stack.without(at))


def twice(stack, wishes):
    """The indexes of the rows that can be put on once more, each alone, so that the same wishes are kept, ascending."""
    return places_that_change_nothing(stack, wishes, lambda at: stack.put(at, stack[at]))


def sets_of(many):
    """All sets of so many indexes, as ascending tuples: the smallest ones first, those of one size ascending."""
    found = [()]
    for index in range(many):
        found = found + [(*chosen, index) for chosen in found]
    return sorted(found, key=lambda each: (len(each), each))


def places_that_change_nothing(stack, wishes, changed):
    """The indexes of a stack for which changed(at), another stack, keeps the same ones of some wishes, ascending."""
    check_wishes(wishes)
    kept = kept_of(stack, wishes)
    return tuple([at for at in range(len(stack)) if kept_of(changed(at), wishes) == kept])
