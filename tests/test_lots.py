"""Promise [18]: the lots; and [1] to [3] as far as they speak about them."""

import itertools
import unittest

from outermost.errors import InvalidStack, InvalidWish
from outermost.lots import enough, needless, sets_of, twice
from outermost.rows import Count, Leave, Row
from outermost.stacks import Stack
from tests import model
from tests.samples import large_stacks, lots, rows, small_stacks, stack
from tests.values import all_values, made_rows, other_values

ALL_WISHES = list(model.WISHES + model.BOUNDS)

# Rows that must be there, spare ones, wishes, and what is enough of the spare ones.
ENOUGH = (
    ((), (), (), ()),
    ((), (), ("once", "kept"), ()),
    ((), (), ("calm",), None),
    ((), ("soft all",), (), ()),
    ((), ("leave", "soft fault"), ("leave",), (0,)),
    ((), ("leave", "soft fault"), ("calm",), (1,)),
    ((), ("leave", "soft fault"), ("calm", "leave"), (0, 1)),
    ((), ("count", "leave", "lend", "soft all"), ("leave", "calm"), (1, 3)),
    ((), ("leave", "lend"), ("calm", "leave"), None),
    (("leave",), (), ("leave",), ()),
    (("leave",), ("leave", "soft all"), ("leave",), ()),
    (("leave",), ("leave", "soft all"), ("calm",), (1,)),
    (("keep all ever",), ("leave", "count", "soft all"), ("kept", "leave"), (0, 2)),
    # A limit, and a keeper or a soft below the tries: each of them is enough.
    (("tries 2 fault",), ("count", "leave", "limit 1"), ("bound 1",), (2,)),
    (("tries 2 fault",), ("limit 1", "keep all ever", "soft fault"), ("bound 1",), (0,)),
    (("tries 2 fault",), ("keep good ever", "keep all ever", "soft fault"), ("bound 1",), (1,)),
    (("tries 2 fault",), ("limit 2", "leave", "soft fault"), ("bound 1",), (2,)),
    # With keep outside tries and limit outside both, a second try is cut, so that no fault is kept: both are wanted.
    (("keep all ever",), ("tries 2 fault", "limit 1", "count"), ("kept",), (0, 1)),
    (("keep all ever",), ("limit 1", "count", "tries 2 fault"), ("kept", "once"), (0, 2)),
    # The smaller set, though the other one is the first in the order of tuples.
    (("keep all ever",), ("tries 2 fault", "limit 1", "soft all"), ("kept",), (2,)),
    # All three.
    (("keep all ever",), ("leave", "tries 2 fault", "limit 1"), ("kept", "leave"), (0, 1, 2)),
    (("keep all ever",), ("tries 2 fault", "soft all", "limit 1"), ("kept", "calm", "spare"), (0, 1, 2)),
    # If leave stands outside count it does not count once, and else oftener than tries are made.
    (("count", "tries 2 fault"), ("leave", "limit 1"), ("once", "tries"), (1,)),
    (("count", "leave"), ("soft all", "limit 1"), ("once", "tries"), None),
)


class EnoughTest(unittest.TestCase):
    def test_by_hand(self):
        for must, spares, wishes, expected in ENOUGH:
            told = enough(rows(*must), rows(*spares), wishes)
            self.assertEqual(told, expected, (must, spares, wishes))
            self.assertIs(type(told), tuple if expected is not None else type(None))

    def test_by_other_means(self):
        for must, spares, wishes, expected in ENOUGH:
            self.assertEqual(model.enough(must, spares, wishes), expected, (must, spares, wishes))
        choices = (["calm"], ["calm", "leave"], ("leave", "kept", "bound 1"), ["once", "calm"], ["bound 1", "spare"])
        for texts, wishes in itertools.product(lots(40), choices):
            for many in range(len(texts) + 1):
                must, spares = texts[:many], texts[many:]
                self.assertEqual(enough(rows(*must), rows(*spares), wishes), model.enough(must, spares, wishes))

    def test_samples_are_of_all_kinds(self):
        told = [enough([], rows(*texts), wishes) for texts in lots(40) for wishes in (["calm"], ["calm", "leave"])]
        told += [expected for must, spares, wishes, expected in ENOUGH]
        self.assertEqual({None if found is None else len(found) for found in told}, {None, 0, 1, 2, 3})

    def test_sets_in_their_order(self):
        self.assertEqual(sets_of(0), [()])
        for many in range(6):
            expected = [chosen for size in range(many + 1) for chosen in itertools.combinations(range(many), size)]
            self.assertEqual(sets_of(many), expected)

    def test_the_first_of_several_smallest_sets(self):
        for spares, expected in (
            (("soft all", "leave", "soft all", "leave"), (0, 1)), (("leave", "leave", "soft all", "soft all"), (0, 2)),
            (("count", "soft all", "leave", "leave"), (1, 2)), (("leave", "count", "count", "soft fault"), (0, 3)),
        ):
            self.assertEqual(enough([], rows(*spares), ["calm", "leave"]), expected)
        # Each of them is enough by itself.
        for spares in (("limit 1", "limit 1", "limit 1"), ("soft all", "limit 1", "soft fault")):
            self.assertEqual(enough(rows("tries 2 fault"), rows(*spares), ["bound 1"]), (0,))

    def test_equal_rows(self):
        soft = Row.read("soft all")
        self.assertEqual(enough([soft], [soft, soft], ["calm"]), ())
        self.assertEqual(enough([], [soft, soft, soft], ["calm"]), (0,))
        self.assertEqual(enough(rows("tries 2 fault", "tries 2 fault"), rows("limit 1", "limit 1"), ["bound 1"]), (0,))

    def test_lists_and_tuples_that_stay(self):
        must, spares, wishes = rows("keep all ever"), rows("leave", "count", "soft all"), ["kept", "leave"]
        copies = list(must), list(spares), list(wishes)
        for kinds in itertools.product((list, tuple), repeat=3):
            given = [kind(things) for kind, things in zip(kinds, (must, spares, wishes))]
            self.assertEqual(enough(*given), (0, 2))
        self.assertEqual(enough(wishes=wishes, spares=spares, must=must), (0, 2))
        self.assertEqual((must, spares, wishes), copies)


class NeedlessAndTwiceTest(unittest.TestCase):
    def test_needless_by_hand(self):
        for texts, wishes, expected in (
            ((), (), ()),
            ((), ("calm", "kept"), ()),
            (("soft all",), ("calm",), ()),
            (("soft all",), ("leave",), (0,)),
            (("soft all", "tries 2 fault"), ("calm",), (1,)),
            # Each can be taken off alone, though not all together.
            (("soft all", "soft all"), ("calm",), (0, 1)),
            (("soft fault", "count", "soft all"), ("calm",), (0, 1, 2)),
            (("count", "tries 2 fault"), ("once",), (0, 1)),
            (("tries 2 fault", "count"), ("tries",), (0, 1)),
            # Without one of the two the stack would keep the wish that it does not keep.
            (("tries 2 fault", "count"), ("once",), ()),
            (("count", "tries 2 fault"), ("tries",), ()),
            (("keep good ever", "leave"), ("leave",), (1,)),
            (("lend", "leave"), ("leave",), (1,)),
            (("tries 2 fault",), ("bound 1",), ()),
            # The keeper keeps that someone is denied; so soft changes nothing.
            (("keep all ever", "leave", "soft all"), ("kept",), (2,)),
            (("leave", "keep all ever", "soft all"), ("kept", "leave"), (1,)),
            (("leave", "keep all ever", "soft all", "count", "limit 3", "lend"), ("kept", "leave"), (1, 3, 4, 5)),
            (("limit 1", "tries 2 fault"), ("bound 1",), (1,)),
            (("limit 1", "tries 2 fault"), ("leave",), (0, 1)),
        ):
            self.assertEqual(needless(stack(*texts), wishes), expected, (texts, wishes))
            self.assertEqual(model.needless(texts, wishes), expected, (texts, wishes))

    def test_twice_by_hand(self):
        for texts, wishes, expected in (
            ((), (), ()),
            ((), ("calm",), ()),
            (("count",), ("once",), (0,)),
            (("tries 2 fault",), ("bound 2",), ()),
            (("tries 2 fault", "count"), ("bound 2",), (1,)),
            (("tries 2 fault",), ("bound 3",), ()),
            (("tries 2 fault",), ("bound 4",), (0,)),
            (("tries 1 fault",), ("bound 1",), (0,)),
            # Neither one nor two keep the wish.
            (("tries 2 fault",), ("bound 1",), (0,)),
            (("tries 3 fault", "limit 2"), ("bound 2",), (0, 1)),
            (("keep good ever", "leave"), ("leave",), (0, 1)),
            # Here all stand below the limit or above what is not asked again.
            (("limit 2", "tries 3 fault"), ("bound 2",), (0, 1)),
            (("tries 2 fault", "soft fault"), ("bound 1",), (0, 1)),
            (("keep good 0",), ("fresh",), (0,)),
            (("soft all", "keep all 0"), ("calm", "kept", "spare"), (0, 1)),
            (("leave", "lend", "count", "soft all", "keep good 0", "limit 1"), ("leave", "calm", "spare"),
             (0, 1, 2, 3, 4, 5)),
            (("count", "tries 3 fault", "leave", "tries 2 fault"), ("bound 6", "once"), (0, 2)),
        ):
            self.assertEqual(twice(stack(*texts), wishes), expected, (texts, wishes))
            self.assertEqual(model.twice(texts, wishes), expected, (texts, wishes))

    def test_by_other_means(self):
        for number, texts in enumerate(small_stacks()[::7] + large_stacks(60)):
            for wishes in ([], [ALL_WISHES[number % 13]], ALL_WISHES[number % 5::3], ALL_WISHES[::-1]):
                for function, expected in ((needless, model.needless), (twice, model.twice)):
                    told = function(stack(*texts), wishes)
                    self.assertIs(type(told), tuple)
                    self.assertEqual(told, expected(texts, wishes), (texts, wishes))

    def test_samples_are_of_all_kinds(self):
        for function in (needless, twice):
            told = [(len(texts), len(function(stack(*texts), ALL_WISHES))) for texts in large_stacks(60)]
            self.assertEqual({0 < found < many for many, found in told}, {True, False})
            self.assertEqual({many for many, found in told}, {3, 4, 5, 6})

    def test_no_wishes(self):
        for texts in large_stacks(8) + [(), ("leave",)]:
            for function in (needless, twice):
                self.assertEqual(function(stack(*texts), []), tuple(range(len(texts))))
                self.assertEqual(function(stack(*texts), ()), tuple(range(len(texts))))

    def test_wishes_in_any_order_and_several_times(self):
        texts = ("keep all ever", "leave", "soft all", "count")
        for wishes in itertools.permutations(("kept", "once", "calm")):
            for function in (needless, twice):
                expected = function(stack(*texts), ["calm", "kept", "once"])
                self.assertEqual(function(stack(*texts), wishes), expected)
                self.assertEqual(function(stack(*texts), list(wishes) * 3), expected)

    def test_arguments_that_stay(self):
        put = stack("soft all", "tries 2 fault", "count")
        wishes = ["calm", "tries"]
        for function in (needless, twice):
            told = function(put, wishes)
            self.assertEqual(function(wishes=wishes, stack=put), told)
            self.assertEqual(function(put, tuple(wishes)), told)
            self.assertEqual((str(put), wishes), ("soft all\ntries 2 fault\ncount", ["calm", "tries"]))


class WrongTest(unittest.TestCase):
    def assert_no_stack(self, at, must, spares, wishes):
        with self.assertRaises(InvalidStack) as caught:
            enough(must, spares, wishes)
        self.assertEqual((type(caught.exception.at), caught.exception.at), (int, at))

    def test_lots(self):
        for value in other_values() + made_rows()[:3] + [Stack([Leave()]), "leave", {}, {0: Leave()}]:
            for wishes in ([], ["calm"], None, ["x"]):
                if not isinstance(value, (list, tuple)):
                    self.assert_no_stack(0, value, [], wishes)
                    self.assert_no_stack(0, [Leave()], value, wishes)
                    self.assert_no_stack(0, value, value, wishes)
                    # That of must is told ahead of that of the spare ones.
                    self.assert_no_stack(0, value, [Leave(), 1], wishes)
                    self.assert_no_stack(1, [Leave(), 1], value, wishes)
                if not isinstance(value, Row):
                    for at in range(3):
                        lot = rows("leave", "count")
                        lot.insert(at, value)
                        self.assert_no_stack(at, lot, [], wishes)
                        self.assert_no_stack(at, (), tuple(lot), wishes)
                        self.assert_no_stack(at, lot, tuple(lot[1:]), wishes)
                        self.assert_no_stack(2, rows("leave", "count") + [value], lot, wishes)

    def assert_no_wishes(self, wishes):
        self.assertRaises(InvalidWish, enough, [Leave()], [Count()], wishes)
        self.assertRaises(InvalidWish, enough, [], [], wishes)
        for function in (needless, twice):
            self.assertRaises(InvalidWish, function, Stack(), wishes)
            self.assertRaises(InvalidWish, function, stack("leave", "count"), wishes)

    def test_no_sequences_of_wishes(self):
        for value in all_values() + ["kept", "bound 1", {}, {"kept": "kept"}]:
            if value not in ([], (), ["leave"]):
                self.assert_no_wishes(value)

    def test_wrong_wishes(self):
        words = ["bound 0", "bound 7", "Kept", "kept ", "tries 2 fault", "kept leave", "bound"]
        for value in all_values() + words + [["kept"], ("kept",)]:
            if value != "leave":
                for wishes in ([value], (value,), ["kept", value], (value, "bound 1"), ["once", value, "calm"]):
                    self.assert_no_wishes(wishes)

    def test_wishes_that_are_right(self):
        for wish in ALL_WISHES:
            for wishes in ([wish], (wish, "leave", wish)):
                self.assertIn(enough([], rows("leave"), wishes), ((), (0,), None))
                self.assertIn(needless(stack("leave"), wishes), ((), (0,)))
                self.assertEqual(twice(stack("leave"), wishes), (0,))


class LimitsTest(unittest.TestCase):
    def test_four_rows_together(self):
        texts = ("keep all 1", "tries 2 all", "tries 2 fault", "soft fault")
        for many in range(5):
            for wishes in (ALL_WISHES, ["calm", "bound 1"]):
                told = enough(rows(*texts[:many]), rows(*texts[many:]), wishes)
                self.assertEqual(told, model.enough(texts[:many], texts[many:], wishes))

    def test_six_rows_with_two_keep_and_two_tries(self):
        for texts in (
            ("keep all 1", "tries 2 all", "leave", "keep all 1", "tries 2 all", "count"),
            ("soft fault", "keep all 1", "limit 3", "keep good ever", "tries 2 all", "tries 2 fault"),
            ("keep all 3", "tries 3 all", "tries 3 fault", "count", "leave", "limit 6"),
        ):
            self.assertEqual(needless(stack(*texts), ALL_WISHES), model.needless(texts, ALL_WISHES))
            self.assertEqual(twice(stack(*texts), ALL_WISHES), model.twice(texts, ALL_WISHES))


if __name__ == "__main__":
    unittest.main()
