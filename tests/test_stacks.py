"""Promise [6]: the stacks; and [1] to [3] as far as they speak about stacks."""

import unittest

from outermost.errors import InvalidStack, InvalidText, NoRow
from outermost.rows import Count, Keep, Leave, Lend, Limit, Row, Soft, Tries
from outermost.stacks import Stack
from tests.values import NO_ROW_TEXTS, ROW_TEXTS, all_values, made_rows, other_values

SIX = ("keep all 1", "leave", "tries 2 fault", "leave", "limit 3", "soft all")
FAR = (-10 ** 30, -100, -7, -2, -1)


def six_rows():
    return [Row.read(text) for text in SIX]


def stacks_up_to_six():
    return [Stack(six_rows()[:many]) for many in range(7)]


def texts(stack):
    return tuple(str(row) for row in stack.rows)


class MadeTest(unittest.TestCase):
    def assert_no_stack(self, at, value):
        with self.assertRaises(InvalidStack) as caught:
            Stack(value)
        self.assertEqual((type(caught.exception.at), caught.exception.at), (int, at))

    def test_no_rows(self):
        for stack in (Stack(), Stack([]), Stack(()), Stack(rows=()), Stack(rows=[])):
            self.assertEqual((stack.rows, len(stack), str(stack)), ((), 0, ""))

    def test_from_lists_and_tuples(self):
        rows = six_rows()
        for many in range(7):
            for value in (rows[:many], tuple(rows[:many])):
                for stack in (Stack(value), Stack(rows=value)):
                    self.assertIs(type(stack.rows), tuple)
                    self.assertEqual(len(stack.rows), many)
                    self.assertEqual(len(stack), many)
                    for at in range(many):
                        self.assertIs(stack.rows[at], rows[at])

    def test_changes_behind_the_call(self):
        rows = six_rows()
        stack = Stack(rows)
        rows[0] = Count()
        rows.append(Lend())
        rows.reverse()
        self.assertEqual(texts(stack), SIX)

    def test_argument_is_not_changed(self):
        rows = six_rows()
        copied = list(rows)
        stack = Stack(rows)
        stack.without(0)
        stack.swapped(0)
        stack.put(0, Count())
        self.assertEqual(len(rows), 6)
        self.assertTrue(all(row is other for row, other in zip(rows, copied)))

    def test_no_sequence(self):
        for value in other_values() + made_rows() + [{}, {0: Leave()}, "leave", iter([]), Leave, Stack]:
            if not isinstance(value, (list, tuple)):
                self.assert_no_stack(0, value)

    def test_things_that_are_no_rows(self):
        for value in other_values() + [[], (), [Leave()], Leave, Stack]:
            for at in range(6):
                rows = six_rows()[:5]
                rows.insert(at, value)
                self.assert_no_stack(at, rows)
                self.assert_no_stack(at, tuple(rows))
                self.assert_no_stack(at, rows + [value])

    def test_sequences_of_other_things(self):
        self.assert_no_stack(0, [None])
        self.assert_no_stack(0, ("leave",))
        self.assert_no_stack(0, ["leave", Leave()])
        self.assert_no_stack(1, [Leave(), "leave", None])
        self.assert_no_stack(2, (Leave(), Count(), Stack([Lend()])))


class IndexTest(unittest.TestCase):
    def assert_no_row(self, at, function, *more):
        with self.assertRaises(NoRow) as caught:
            function(at, *more)
        self.assertEqual(caught.exception.at, at)

    def test_each_index(self):
        rows = six_rows()
        for many in range(7):
            stack = Stack(rows[:many])
            for at in range(many):
                self.assertIs(stack[at], rows[at])
            for at in FAR + (many, many + 1, many + 100, 10 ** 30):
                self.assert_no_row(at, lambda index, held=stack: held[index])

    def test_without(self):
        for many in range(7):
            stack = Stack(six_rows()[:many])
            for at in range(many):
                less = stack.without(at)
                self.assertIsInstance(less, Stack)
                self.assertEqual(texts(less), SIX[:at] + SIX[at + 1:many])
                self.assertEqual(stack.without(at=at), less)
            for at in FAR + (many, many + 1, many + 100, 10 ** 30):
                self.assert_no_row(at, stack.without)
            self.assertEqual(texts(stack), SIX[:many])

    def test_swapped(self):
        for many in range(7):
            stack = Stack(six_rows()[:many])
            for at in range(many - 1):
                other = stack.swapped(at)
                self.assertIsInstance(other, Stack)
                expected = SIX[:at] + (SIX[at + 1], SIX[at]) + SIX[at + 2:many]
                self.assertEqual(texts(other), expected)
                self.assertEqual(stack.swapped(at=at), other)
                self.assertEqual(texts(other.swapped(at)), SIX[:many])
            for at in FAR + (many - 1, many, many + 1, many + 100, 10 ** 30):
                self.assert_no_row(at, stack.swapped)
            self.assertEqual(texts(stack), SIX[:many])

    def test_put(self):
        for many in range(7):
            stack = Stack(six_rows()[:many])
            for at in range(many + 1):
                row = Lend()
                more = stack.put(at, row)
                self.assertIsInstance(more, Stack)
                self.assertIs(more[at], row)
                self.assertEqual(texts(more), SIX[:at] + ("lend",) + SIX[at:many])
                self.assertEqual(stack.put(row=row, at=at), more)
                self.assertEqual(more.without(at), stack)
            for at in FAR + (many + 1, many + 2, many + 100, 10 ** 30):
                self.assert_no_row(at, stack.put, Lend())
            self.assertEqual(texts(stack), SIX[:many])

    def test_rows_are_the_same_things(self):
        rows = six_rows()
        stack = Stack(rows)
        self.assertIs(stack.without(0)[0], rows[1])
        self.assertIs(stack.swapped(2)[2], rows[3])
        self.assertIs((stack + stack)[7], rows[1])

    def test_results_have_rows_as_tuples(self):
        stack = Stack(six_rows()[:3])
        for result in (stack.without(1), stack.swapped(1), stack.put(1, Leave()), stack + stack, Stack.read("leave")):
            self.assertIs(type(result.rows), tuple)


class SumTest(unittest.TestCase):
    def test_rows_of_both(self):
        for p in stacks_up_to_six():
            for q in (Stack(), Stack([Count()]), Stack([Lend(), Keep("all", 2)])):
                both = p + q
                self.assertIsInstance(both, Stack)
                self.assertEqual(texts(both), texts(p) + texts(q))
                self.assertEqual(len(both), len(p) + len(q))
                self.assertEqual(texts(q + p), texts(q) + texts(p))

    def test_any_grouping(self):
        parts = [Stack(), Stack([Leave()]), Stack([Count(), Lend()]), Stack([Limit(2), Soft(), Tries(2)])]
        for p in parts:
            for q in parts:
                for r in parts:
                    self.assertEqual((p + q) + r, p + (q + r))
                    self.assertEqual(texts(p + q + r), texts(p) + texts(q) + texts(r))

    def test_in_place_makes_a_new_object(self):
        p = q = Stack([Leave()])
        more = Stack([Count()])
        p += more
        self.assertIsNot(p, q)
        self.assertEqual((str(p), str(q), str(more)), ("leave\ncount", "leave", "count"))
        p = q
        p += Stack()
        self.assertEqual((str(p), str(q)), ("leave", "leave"))
        held = {"at": q}
        held["at"] += q
        self.assertEqual((str(held["at"]), str(q)), ("leave\nleave", "leave"))

    def test_with_anything_else(self):
        for stack in (Stack(), Stack([Leave()])):
            for value in all_values() + ["leave", Stack]:
                if not isinstance(value, Stack):
                    with self.assertRaises(TypeError):
                        stack + value
                    with self.assertRaises(TypeError):
                        value + stack
                    held = stack
                    with self.assertRaises(TypeError):
                        held += value
                    self.assertIs(held, stack)

    def test_even_what_would_take_part_in_a_sum(self):
        class Eager:
            def __radd__(self, other):
                return other

        with self.assertRaises(TypeError):
            Stack() + Eager()


class TextsTest(unittest.TestCase):
    def assert_no_text(self, at, text):
        with self.assertRaises(InvalidText) as caught:
            Stack.read(text)
        self.assertEqual((type(caught.exception.at), caught.exception.at), (int, at))

    def test_texts(self):
        for many, stack in enumerate(stacks_up_to_six()):
            self.assertEqual(str(stack), "\n".join(SIX[:many]))

    def test_read_again(self):
        for many, stack in enumerate(stacks_up_to_six()):
            for again in (Stack.read(str(stack)), Stack.read(text=str(stack))):
                self.assertIsInstance(again, Stack)
                self.assertEqual(again, stack)
                self.assertEqual(texts(again), SIX[:many])
        for row, text in zip(made_rows(), ROW_TEXTS):
            self.assertEqual(Stack.read(text), Stack([row]))
            self.assertEqual(vars(Stack.read("leave\n" + text)[1]), vars(row))

    def test_empty_text(self):
        self.assertEqual(Stack.read("").rows, ())

    def test_lines_of_no_row(self):
        lines = [text for text in NO_ROW_TEXTS if text != ""]
        for line in lines:
            self.assert_no_text(0, line)
        for line in NO_ROW_TEXTS:
            for at in range(1, 6):
                self.assert_no_text(at, "\n".join(SIX[:at] + (line,) + SIX[at:]))
            self.assert_no_text(0, line + "\nleave")
            self.assert_no_text(1, "leave\n" + line)

    def test_first_line_of_several(self):
        self.assert_no_text(0, "x\nleave\ny")
        self.assert_no_text(1, "leave\nx\ny\ncount")
        self.assert_no_text(2, "leave\ncount\nlimit 7\nlimit 0")

    def test_newlines(self):
        self.assert_no_text(0, "\n")
        self.assert_no_text(0, "\n\n")
        self.assert_no_text(0, "\nleave")
        self.assert_no_text(1, "leave\n")
        self.assert_no_text(1, "leave\n\ncount")
        self.assert_no_text(2, "leave\ncount\n")
        self.assert_no_text(0, "leave\rcount")
        self.assert_no_text(0, "leave ; count")

    def test_more_rows_than_the_limit(self):
        text = "\n".join(["leave"] * 20)
        self.assertEqual((len(Stack.read(text)), str(Stack.read(text))), (20, text))


class EqualityTest(unittest.TestCase):
    def test_equal_just_if_the_texts_are(self):
        stacks = stacks_up_to_six() + [Stack([row]) for row in made_rows()]
        stacks += [Stack([Leave(), Count()]), Stack([Count(), Leave()])]
        for stack in stacks:
            for other in stacks + [Stack.read(str(each)) for each in stacks]:
                is_same = texts(stack) == texts(other)
                self.assertIs(stack == other, is_same)
                self.assertIs(stack != other, not is_same)

    def test_equal_to_nothing_else(self):
        for stack in stacks_up_to_six():
            for value in all_values() + [str(stack), stack.rows, list(stack.rows), [stack], texts(stack), Stack]:
                if not isinstance(value, Stack):
                    self.assertIs(stack == value, False)
                    self.assertIs(value == stack, False)
                    self.assertIs(stack != value, True)

    def test_one_row_is_no_stack_of_it(self):
        for row in made_rows():
            self.assertIs(Stack([row]) == row, False)
            self.assertIs(row == Stack([row]), False)

    def test_not_iterable(self):
        for stack in stacks_up_to_six():
            for function in (iter, list, tuple, set, sorted, enumerate, sum):
                self.assertRaises(TypeError, function, stack)
            with self.assertRaises(TypeError):
                [*stack]
            with self.assertRaises(TypeError):
                Leave() in stack
            rows = []
            with self.assertRaises(TypeError):
                rows += stack
            self.assertEqual(rows, [])


if __name__ == "__main__":
    unittest.main()
