"""Promises [14] to [17]: the orders; and [1] to [3] as far as they speak about them."""

import itertools
import unittest

from outermost.errors import InvalidOrder, InvalidStack, InvalidWish
from outermost.orders import clash, clash_holds, good, is_one, nearest, outside, stack_of, way
from outermost.rows import Count, Leave, Row
from outermost.stacks import Stack
from outermost.wishes import keeps
from tests import model
from tests.samples import lots, rows
from tests.values import all_values, made_rows, nested, other_values

# Lots and wishes of which some good orders are told by one list, some are not, and some cannot be reached from others.
CASES = (
    ((), ()),
    ((), ("calm",)),
    (("soft all",), ("calm", "leave")),
    (("leave", "soft all"), ("calm", "leave")),
    (("keep all ever", "leave", "soft all"), ("kept",)),
    (("keep all ever", "leave", "soft all"), ("calm",)),
    (("keep all ever", "leave", "soft all"), ("kept", "leave")),
    (("keep good ever", "leave", "leave"), ("leave",)),
    (("keep good ever", "keep good ever", "count"), ("tries",)),
    (("keep good ever", "keep all 0", "soft fault"), ("kept",)),
    (("tries 2 fault", "limit 1", "soft fault"), ("calm",)),
    (("tries 2 fault", "limit 1", "count"), ("tries",)),
    (("tries 2 fault", "soft fault", "count"), ("once",)),
    (("keep all ever", "tries 2 fault", "tries 2 all"), ("bound 2",)),
    (("leave", "leave", "lend"), ("kept", "leave")),
    (("keep all ever", "tries 2 all", "limit 1", "soft all"), ("spare", "calm")),
    (("keep all ever", "leave", "soft all", "soft all"), ("kept",)),
    (("keep all 0", "tries 2 all", "limit 1", "count"), ("tries",)),
    (("keep all 0", "leave", "leave", "soft all"), ("kept",)),
    (("tries 2 fault", "limit 1", "count", "count"), ("tries",)),
    (("tries 2 all", "tries 2 all", "limit 1", "soft all"), ("bound 1",)),
    (("tries 2 all", "limit 1", "soft fault", "count"), ("tries", "calm")),
    (("keep good ever", "tries 2 all", "soft all", "count"), ("once",)),
    (("count", "count", "count", "count"), ("once", "tries")),
    (("tries 2 fault", "leave", "lend", "count"), ("calm",)),
    (("leave", "soft all", "count", "keep good 1"), ("kept", "fresh", "leave")),
)

# The three rows of the document's last example: only (2, 0, 1) is bad for calm.
THREE = ("soft fault", "tries 2 fault", "limit 1")


def orders(many):
    return list(itertools.permutations(range(many)))


class CasesTest(unittest.TestCase):
    def test_cases_are_of_all_kinds(self):
        kinds = set()
        for texts, wishes in CASES:
            found = model.good(texts, wishes)
            kinds.add((len(texts), "one" if model.is_one(len(texts), found) else "clash"))
            if any(model.way_length(found, x, y) is None for x in found for y in found):
                kinds.add((len(texts), "apart"))
            if not found:
                kinds.add("none")
        for kind in ((0, "one"), (1, "one"), (2, "one"), (3, "one"), (4, "one"), (3, "clash"), (4, "clash"),
                     (3, "apart"), (4, "apart"), "none"):
            self.assertIn(kind, kinds)

    def test_good_and_outside(self):
        for texts, wishes in CASES:
            found = good(rows(*texts), wishes)
            self.assertIs(type(found), tuple)
            self.assertEqual(list(found), model.good(texts, wishes), (texts, wishes))
            for order in found:
                self.assertIs(type(order), tuple)
                self.assertTrue(all(type(index) is int for index in order))
            pairs = outside(rows(*texts), wishes)
            self.assertIs(type(pairs), tuple)
            self.assertEqual(list(pairs), sorted(model.outside(found)))
            self.assertTrue(all(type(pair) is tuple for pair in pairs))

    def test_one_list_or_a_clash(self):
        for texts, wishes in CASES:
            lot = rows(*texts)
            found = model.good(texts, wishes)
            clashes = model.clashes(len(texts), found)
            told = clash(lot, wishes)
            self.assertIs(is_one(lot, wishes), model.is_one(len(texts), found))
            self.assertEqual(is_one(lot, wishes), told is None)
            self.assertEqual(is_one(lot, wishes), not clashes)
            if told is not None:
                self.assertIn(told, clashes)
                self.assertEqual([type(part) for part in told], [tuple, tuple, int])
                self.assertIs(clash_holds(lot, wishes, told), True)

    def test_each_triple(self):
        for texts, wishes in CASES:
            lot, many = rows(*texts), len(texts)
            clashes = model.clashes(many, model.good(texts, wishes))
            triples = itertools.product(orders(many), orders(many), range(-1, many + 1))
            for value in triples if many < 4 else itertools.islice(triples, 0, None, 17):
                self.assertIs(clash_holds(lot, wishes, value), value in clashes, (texts, wishes, value))

    def test_nearest(self):
        for texts, wishes in CASES:
            found = model.good(texts, wishes)
            for order in orders(len(texts)):
                # Python's min takes the first of the least ones.
                expected = min(found, key=lambda other: len(model.pairs(order) - model.pairs(other)), default=None)
                self.assertEqual(nearest(rows(*texts), order, wishes), expected, (texts, wishes, order))

    def test_ways(self):
        for texts, wishes in CASES:
            lot, found = rows(*texts), model.good(texts, wishes)
            for x, y in list(itertools.product(found, found))[::5 if len(found) > 6 else 1]:
                length = model.way_length(found, x, y)
                told = way(lot, x, y, wishes)
                if length is None:
                    self.assertIs(told, None)
                    continue
                self.assertIs(type(told), tuple)
                self.assertEqual((told[0], told[-1], len(told)), (x, y, length))
                for order, after in zip(told, told[1:]):
                    self.assertIn(after, [model.swapped(order, at) for at in range(len(order) - 1)])
                self.assertLessEqual(set(told), set(found))


class SampleLotsTest(unittest.TestCase):
    def test_by_other_means(self):
        for texts in lots(60):
            lot = rows(*texts)
            for wishes in (["calm"], ["kept", "leave"], ("once", "bound 2"), ["tries"], ("fresh", "spare")):
                found = model.good(texts, wishes)
                self.assertEqual(list(good(lot, wishes)), found)
                self.assertEqual(set(outside(lot, wishes)), model.outside(found))
                self.assertIs(is_one(lot, wishes), model.is_one(len(lot), found))
                self.assertEqual(clash(lot, wishes) is None, is_one(lot, wishes))


class ByHandTest(unittest.TestCase):
    def test_no_rows(self):
        self.assertEqual(good([], []), ((),))
        self.assertEqual(good((), ["once"]), ((),))
        self.assertEqual(good([], ["calm"]), ())
        for wishes in ([], ["once"], ["calm"]):
            self.assertEqual((outside([], wishes), is_one([], wishes), clash([], wishes)), ((), True, None))
        self.assertEqual(nearest([], (), ["once"]), ())
        self.assertIs(nearest([], (), ["calm"]), None)
        self.assertEqual(way([], (), (), []), ((),))
        self.assertRaises(InvalidOrder, way, [], (), (), ["calm"])
        self.assertIs(clash_holds([], [], ((), (), 0)), False)
        self.assertEqual(stack_of([], ()), Stack())

    def test_one_row(self):
        lot = rows("soft all")
        self.assertEqual((good(lot, ["calm"]), good(lot, ["leave"])), (((0,),), ()))
        self.assertEqual((outside(lot, ["calm"]), is_one(lot, ["calm"]), clash(lot, ["calm"])), ((), True, None))
        self.assertIs(clash_holds(lot, ["calm"], ((0,), (0,), 0)), False)
        self.assertEqual(way(lot, (0,), (0,), ["calm"]), ((0,),))

    def test_two_rows(self):
        lot = rows("leave", "keep good ever")
        self.assertEqual(good(lot, ["leave"]), ((0, 1),))
        self.assertEqual(outside(lot, ["leave"]), ((0, 1),))
        self.assertEqual(outside(lot, []), ())
        self.assertEqual(good(lot, []), ((0, 1), (1, 0)))
        self.assertEqual(good(lot, ["calm"]), ())
        self.assertEqual(outside(lot, ["calm"]), ())
        self.assertEqual(nearest(lot, (1, 0), ["leave"]), (0, 1))
        self.assertEqual(way(lot, (0, 1), (1, 0), []), ((0, 1), (1, 0)))

    def test_equal_rows_have_indexes_of_their_own(self):
        lot = [Row.read("leave"), Row.read("keep good ever"), Row.read("leave")]
        self.assertEqual(good(lot, ["leave"]), ((0, 1, 2), (0, 2, 1), (2, 0, 1), (2, 1, 0)))
        # A keeper below one of them: that is no list of pairs.
        self.assertEqual((outside(lot, ["leave"]), is_one(lot, ["leave"])), ((), False))
        same = Leave()
        self.assertEqual(good([same, same], ["leave"]), ((0, 1), (1, 0)))
        self.assertEqual(outside([same, same], ["leave"]), ())
        self.assertEqual(good([same] * 4, []), tuple(orders(4)))

    def test_good_orders_that_are_apart(self):
        lot = rows("keep all ever", "leave", "soft all")
        self.assertEqual(good(lot, ["kept"]), ((0, 2, 1), (1, 0, 2)))
        self.assertEqual(outside(lot, ["kept"]), ((0, 2),))
        self.assertEqual(clash(lot, ["kept"])[:2], ((0, 2, 1), (1, 0, 2)))
        self.assertIs(way(lot, (0, 2, 1), (1, 0, 2), ["kept"]), None)
        self.assertIs(way(lot, (1, 0, 2), (0, 2, 1), ["kept"]), None)
        self.assertEqual(way(lot, (1, 0, 2), (1, 0, 2), ["kept"]), ((1, 0, 2),))

    def test_nearest_is_the_first_of_the_nearest_ones(self):
        lot = rows(*THREE)
        # (0, 2, 1) and (2, 1, 0) differ from it in one pair each.
        self.assertEqual(nearest(lot, (2, 0, 1), ["calm"]), (0, 2, 1))
        for order in good(lot, ["calm"]):
            self.assertEqual(nearest(lot, order, ["calm"]), order)
        self.assertIs(nearest(lot, (2, 0, 1), ["leave"]), None)
        lot = rows("keep all ever", "leave", "soft all")
        # (0, 2, 1) differs from it in two pairs, (1, 0, 2) in one.
        self.assertEqual(nearest(lot, (1, 2, 0), ["kept"]), (1, 0, 2))
        self.assertEqual(nearest(lot, (0, 1, 2), ["kept"]), (0, 2, 1))
        # Both differ from it in two pairs.
        self.assertEqual(nearest(lot, (2, 1, 0), ["kept"]), (0, 2, 1))

    def test_all_orders_of_each_lot(self):
        for many in range(5):
            lot = rows("count", "leave", "soft fault", "limit 2")[:many]
            self.assertEqual(good(lot, []), tuple(orders(many)))
            self.assertEqual((outside(lot, []), is_one(lot, []), clash(lot, [])), ((), True, None))
            for order in orders(many):
                self.assertEqual(stack_of(lot, order).rows, tuple(lot[index] for index in order))
                self.assertEqual(nearest(lot, order, []), order)
                steps = len(model.pairs(order) - model.pairs(tuple(range(many))))
                self.assertEqual(len(way(lot, tuple(range(many)), order, [])), steps + 1)

    def test_stack_of(self):
        lot = rows("keep all ever", "leave", "soft all")
        told = stack_of(lot=lot, order=(1, 0, 2))
        self.assertIsInstance(told, Stack)
        self.assertEqual(str(told), "leave\nkeep all ever\nsoft all")
        self.assertIs(told[0], lot[1])
        for order in orders(3):
            self.assertIs(order in good(lot, ["kept", "leave"]),
                          keeps(stack_of(lot, order), "kept") and keeps(stack_of(lot, order), "leave"))

    def test_arguments_by_name(self):
        lot, wishes = rows(*THREE), ["calm"]
        self.assertEqual(good(wishes=wishes, lot=lot), good(lot, wishes))
        self.assertEqual(outside(wishes=wishes, lot=lot), ())
        self.assertIs(is_one(wishes=wishes, lot=lot), False)
        self.assertEqual(clash(wishes=wishes, lot=lot), clash(lot, wishes))
        self.assertIs(clash_holds(value=((0, 2, 1), (1, 2, 0), 0), wishes=wishes, lot=lot), True)
        self.assertEqual(nearest(wishes=wishes, order=(2, 0, 1), lot=lot), (0, 2, 1))
        self.assertEqual(way(wishes=wishes, y=(0, 1, 2), x=(0, 2, 1), lot=lot), ((0, 2, 1), (0, 1, 2)))

    def test_lists_and_tuples_that_stay(self):
        lot, wishes = rows(*THREE), ["calm", "calm", "bound 2"]
        copied = list(lot)
        told = (good(lot, wishes), clash(lot, wishes), nearest(lot, (2, 0, 1), wishes))
        self.assertEqual((good(tuple(lot), tuple(wishes)), clash(tuple(lot), wishes), nearest(lot, (2, 0, 1), wishes)),
                         told)
        self.assertTrue(all(row is other for row, other in zip(lot, copied)) and len(lot) == 3)
        self.assertEqual(wishes, ["calm", "calm", "bound 2"])
        way(rows("leave"), (0,), (0,), [])
        self.assertEqual((good(lot, wishes), clash(lot, wishes), nearest(lot, (2, 0, 1), wishes)), told)


class SpoiltClashTest(unittest.TestCase):
    def assert_no_clash(self, *value):
        for each in (value, value + (0,), [*value]):
            self.assertIs(clash_holds(rows(*THREE), ["calm"], each), False, each)

    def test_right_ones(self):
        # (2, 0, 1) is the only bad order: it comes from (0, 2, 1) at 0 and from (2, 1, 0) at 1.
        for y in ((1, 2, 0), (2, 1, 0)):
            self.assertIs(clash_holds(rows(*THREE), ["calm"], ((0, 2, 1), y, 0)), True)
        for y in ((0, 1, 2), (0, 2, 1)):
            self.assertIs(clash_holds(rows(*THREE), ["calm"], ((2, 1, 0), y, 1)), True)

    def test_spoilt_in_one_way(self):
        # x, or y, is no good order.
        self.assert_no_clash((2, 0, 1), (1, 2, 0), 0)
        self.assert_no_clash((0, 2, 1), (2, 0, 1), 0)
        # x with the two things exchanged is good.
        self.assert_no_clash((0, 2, 1), (1, 2, 0), 1)
        self.assert_no_clash((0, 1, 2), (1, 2, 0), 0)
        # The two stand in y as in x.
        self.assert_no_clash((0, 2, 1), (0, 1, 2), 0)
        self.assert_no_clash((0, 2, 1), (0, 2, 1), 0)
        self.assert_no_clash((0, 2, 1), (1, 0, 2), 0)
        # The place is none.
        for at in (-1, -2, -3, 2, 3, 10 ** 30, -10 ** 30):
            self.assert_no_clash((0, 2, 1), (1, 2, 0), at)
            self.assert_no_clash((2, 1, 0), (0, 1, 2), at)

    def test_other_kinds(self):
        right = ((0, 2, 1), (1, 2, 0), 0)
        self.assertIs(clash_holds(rows(*THREE), ["calm"], list(right)), False)
        for value in all_values() + [list(right[0]), (0, 2), (0, 2, 1, 3), (0, 2, 2), (0, 2, True), (False, 2, 1), ()]:
            self.assert_no_clash(value, right[1], 0)
            self.assert_no_clash(right[0], value, 0)
            if type(value) is not int:
                self.assert_no_clash(right[0], right[1], value)
        for y in ([1, 2, 0], (True, 2, False), (1, 2, False), (True, 2, 0)):
            self.assert_no_clash(right[0], y, 0)
        self.assert_no_clash(*right[:2], False)
        self.assert_no_clash((2, 1, 0), (0, 1, 2), True)

    def test_any_values(self):
        for texts, wishes in ((THREE, ["calm"]), (("leave", "count"), []), ((), [])):
            for value in all_values() + [(), ((), (), 0), ((0,), (0,), 0), nested(0, 8)]:
                self.assertIs(clash_holds(rows(*texts), wishes, value), False)

    def test_other_wishes_and_lots(self):
        value = clash(rows(*THREE), ["calm"])
        self.assertIs(clash_holds(rows(*THREE), ["calm"], value), True)
        self.assertIs(clash_holds(rows(*THREE), [], value), False)
        self.assertIs(clash_holds(rows(*THREE), ["leave"], value), False)
        self.assertIs(clash_holds(rows(*THREE[:2]), ["calm"], value), False)
        self.assertIs(clash_holds(rows(*THREE, "leave"), ["calm"], value), False)


class WrongTest(unittest.TestCase):
    def calls(self, lot, wishes, order):
        """All functions with these arguments."""
        return (
            lambda: good(lot, wishes), lambda: outside(lot, wishes), lambda: is_one(lot, wishes),
            lambda: clash(lot, wishes), lambda: clash_holds(lot, wishes, None),
            lambda: nearest(lot, order, wishes), lambda: way(lot, order, order, wishes),
        )

    def assert_no_lot(self, at, lot):
        calls = self.calls(lot, [], (0,)) + self.calls(lot, None, None) + self.calls(lot, ["x"], ["x"])
        for call in calls + (lambda: stack_of(lot, None), lambda: stack_of(lot, (0,)), lambda: stack_of(lot, ())):
            with self.assertRaises(InvalidStack) as caught:
                call()
            self.assertEqual((type(caught.exception.at), caught.exception.at), (int, at))

    def test_lots(self):
        for value in other_values() + made_rows()[:3] + [Stack([Leave()]), "leave", {}, {0: Leave()}]:
            if not isinstance(value, (list, tuple)):
                self.assert_no_lot(0, value)
            if not isinstance(value, Row):
                for at in range(4):
                    lot = rows("leave", "count", "lend")
                    lot.insert(at, value)
                    self.assert_no_lot(at, lot)
                    self.assert_no_lot(at, tuple(lot) + (value,))

    def test_wishes_ahead_of_orders(self):
        for wishes in (None, "kept", 0, ["kept", None], ("bound 7",), [[]], ["kept", "x"]):
            for order in ((0,), (1,), None, [0], (True,)):
                for call in self.calls([Leave()], wishes, order):
                    self.assertRaises(InvalidWish, call)

    def test_orders(self):
        for many in range(5):
            lot = rows("leave", "soft all", "count", "lend")[:many]
            wrong = [value for value in all_values() if value not in ((), (0,))] + [nested(0, 8), "01", {0: 0}]
            wrong += [list(order) for order in orders(many)]
            wrong += [order for size in range(6) if size != many for order in orders(size)]
            wrong += [order for order in itertools.product(range(-1, many + 1), repeat=many)
                      if sorted(order) != list(range(many))]
            for order in orders(many):
                for at in range(many):
                    for value in (None, str(order[at]), (order[at],), [order[at]], Leave()):
                        wrong.append(order[:at] + (value,) + order[at + 1:])
                    if order[at] in (0, 1):
                        wrong.append(order[:at] + (bool(order[at]),) + order[at + 1:])
            right = tuple(range(many))
            for order in wrong:
                self.assertRaises(InvalidOrder, stack_of, lot, order)
                self.assertRaises(InvalidOrder, nearest, lot, order, [])
                self.assertRaises(InvalidOrder, way, lot, order, right, [])
                self.assertRaises(InvalidOrder, way, lot, right, order, [])
                self.assertRaises(InvalidOrder, way, lot, order, order, [])

    def test_ways_between_orders_that_are_not_good(self):
        lot = rows(*THREE)
        for other in good(lot, ["calm"]):
            self.assertRaises(InvalidOrder, way, lot, (2, 0, 1), other, ["calm"])
            self.assertRaises(InvalidOrder, way, lot, other, (2, 0, 1), ["calm"])
        self.assertRaises(InvalidOrder, way, lot, (2, 0, 1), (2, 0, 1), ["calm"])
        self.assertRaises(InvalidOrder, way, lot, (0, 1, 2), (0, 1, 2), ["leave"])

    def test_order_is_wrong_even_if_no_order_is_good(self):
        self.assertRaises(InvalidOrder, nearest, [Count()], (1,), ["calm"])
        self.assertRaises(InvalidOrder, nearest, [Count()], [0], ["calm"])
        self.assertIs(nearest([Count()], (0,), ["calm"]), None)


class LimitsTest(unittest.TestCase):
    def test_large_lots(self):
        wishes = list(model.WISHES + model.BOUNDS)
        for texts in (
            ("keep all 1", "tries 2 all", "tries 2 fault", "soft fault"), ("keep all 1", "keep all ever", "tries 2 all"),
            ("keep all ever", "tries 2 all", "tries 2 all", "leave"),
        ):
            lot = rows(*texts)
            self.assertEqual(list(good(lot, wishes)), model.good(texts, wishes))
            self.assertEqual(clash(lot, ["bound 1"]) is None, is_one(lot, ["bound 1"]))
            for order in orders(len(lot)):
                self.assertEqual(way(lot, order, order, []), (order,))

    def test_more_rows_than_the_limit(self):
        lot = rows("count", "leave", "keep good ever", "soft all", "lend")
        self.assertEqual(list(good(lot, ["leave"])), model.good([str(row) for row in lot], ["leave"]))


if __name__ == "__main__":
    unittest.main()
