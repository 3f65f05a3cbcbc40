"""Orders: in which orders the rows of a lot keep some wishes."""

from outermost.breaks import check_wishes
from outermost.errors import InvalidOrder
from outermost.search import reached, trail
from outermost.stacks import Stack, exchanged, rows_of
from outermost.values import is_integer
from outermost.wishes import keeps_all


def stack_of(lot, order):
    """The stack of the rows of a lot in an order."""
    rows = rows_of(lot)
    check_order(order, len(rows))
    return Stack([rows[index] for index in order])


def good(lot, wishes):
    """All good orders, ascending."""
    rows = rows_of(lot)
    check_wishes(wishes)
    return tuple([order for order in orders_of(len(rows)) if keeps_all(stack_of(rows, order), wishes)])


def outside(lot, wishes):
    """All pairs of indexes of which the first one stands outside the other in all good orders, ascending."""
    return pairs_in_all(good(lot, wishes))


def is_one(lot, wishes):
    """Whether one list tells the good orders."""
    found = good(lot, wishes)
    if not found:
        return True
    pairs = pairs_in_all(found)
    return found == tuple([order for order in orders_of(len(lot)) if keeps_pairs(order, pairs)])


def clash(lot, wishes):
    """Two good orders and a place: to exchange the first one there is bad, though the other one has it so.

    None just if one list tells the good orders.
    """
    found = good(lot, wishes)
    for x in found:
        for at in range(len(x) - 1):
            for y in found:
                if is_clash(found, x, y, at):
                    return (x, y, at)
    return None


def clash_holds(lot, wishes, value):
    """Whether any value is what clash may return."""
    found = good(lot, wishes)
    if not isinstance(value, tuple) or len(value) != 3:
        return False
    x, y, at = value
    if not is_order(x, len(lot)) or not is_order(y, len(lot)) or not is_integer(at):
        return False
    return 0 <= at < len(lot) - 1 and is_clash(found, x, y, at)


def nearest(lot, order, wishes):
    """The first of the good orders that differ from an order in the fewest pairs; None if there are none."""
    found = good(lot, wishes)
    check_order(order, len(lot))
    return min(found, key=lambda other: differences(order, other), default=None)


def way(lot, x, y, wishes):
    """Some shortest way from one good order to another one by exchanges of neighbours; None if there is none."""
    found = good(lot, wishes)
    for order in (x, y):
        check_order(order, len(lot))
        if order not in found:
            raise InvalidOrder()
    ways = reached(x, lambda here: steps_among(found, here))
    return (x, *trail(ways, y)) if y in ways else None


def is_order(value, many):
    """Whether any value is an order of so many things."""
    if not isinstance(value, tuple) or not all([is_integer(index) for index in value]):
        return False
    return sorted(value) == list(range(many))


def check_order(value, many):
    """InvalidOrder for any value that is no order of so many things."""
    if not is_order(value, many):
        raise InvalidOrder()


def orders_of(many):
    """All orders of so many things, ascending."""
    found = [()]
    for place in range(many):
        found = [(*order, index) for order in found for index in range(many) if index not in order]
    return found


def stands_outside(order, i, j):
    """Whether i stands outside j in an order."""
    return order.index(i) < order.index(j)


def keeps_pairs(order, pairs):
    """Whether the first of each pair stands outside the other one in an order."""
    return all([stands_outside(order, i, j) for i, j in pairs])


def pairs_of(order):
    """All pairs of things of which the first one stands outside the other in an order, ascending."""
    return sorted([(i, j) for at, i in enumerate(order) for j in order[at + 1:]])


def pairs_in_all(found):
    """All pairs that stand so in all of some orders, ascending; none if there are no orders."""
    if not found:
        return ()
    return tuple([
        (i, j) for i, j in pairs_of(found[0]) if all([stands_outside(order, i, j) for order in found])
    ])


def differences(order, other):
    """How many pairs stand the other way round in another order."""
    return len([i for i, j in pairs_of(order) if stands_outside(other, j, i)])


def is_clash(found, x, y, at):
    """Whether x and y are good, but x with an exchange is not that stands in y."""
    if x not in found or y not in found:
        return False
    return stands_outside(y, x[at + 1], x[at]) and exchanged(x, at) not in found


def steps_among(found, order):
    """The orders among some that come from one by an exchange of neighbours, each as its own label."""
    others = [exchanged(order, at) for at in range(len(order) - 1)]
    return [(other, other) for other in others if other in found]
