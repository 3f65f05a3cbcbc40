"""Promise [4]: the errors."""

import unittest

from outermost import errors
from outermost.errors import InvalidCommand, InvalidEvent, InvalidLog, InvalidOrder, InvalidRow
from outermost.errors import InvalidStack, InvalidText, InvalidWish, NoRow, Refused, WrapError
from tests.values import all_values

WITHOUT_ARGUMENT = (InvalidWish, InvalidOrder, InvalidCommand)
WITH_AT = (InvalidStack, InvalidText, InvalidEvent, InvalidLog, Refused, NoRow)
ALL = WITHOUT_ARGUMENT + WITH_AT + (InvalidRow,)


class ErrorsTest(unittest.TestCase):
    def test_base_classes(self):
        self.assertEqual(WrapError.__bases__, (ValueError,))
        self.assertEqual(NoRow.__bases__, (IndexError,))
        for error in ALL:
            if error is not NoRow:
                self.assertEqual(error.__bases__, (WrapError,), error)

    def test_none_is_derived_from_another_one(self):
        for error in ALL:
            for other in ALL:
                self.assertEqual(issubclass(error, other), error is other, (error, other))

    def test_no_other_errors(self):
        defined = {value for value in vars(errors).values() if isinstance(value, type)}
        self.assertEqual(defined, set(ALL) | {WrapError})

    def test_argument_is_kept_itself(self):
        for thing in all_values() + [object(), {}, 1.5, InvalidRow, {1}]:
            for error in WITH_AT:
                self.assertIs(error(thing).at, thing)
                self.assertIs(error(at=thing).at, thing)
            self.assertIs(InvalidRow(thing).word, thing)
            self.assertIs(InvalidRow(word=thing).word, thing)

    def test_argument_may_change_behind_the_call(self):
        rows = [1]
        error = InvalidStack(rows)
        rows.append(2)
        self.assertEqual(error.at, [1, 2])

    def test_number_of_arguments(self):
        for error in WITHOUT_ARGUMENT:
            self.assertIsInstance(error(), error)
            self.assertRaises(TypeError, error, 0)
            self.assertRaises(TypeError, error, at=0)
        for error in WITH_AT + (InvalidRow,):
            self.assertRaises(TypeError, error)
            self.assertRaises(TypeError, error, 0, 1)
        self.assertRaises(TypeError, InvalidRow, at=0)
        for error in WITH_AT:
            self.assertRaises(TypeError, error, word=0)

    def test_raised_and_caught_by_the_base(self):
        for error in (InvalidStack, InvalidText, Refused):
            with self.assertRaises(WrapError) as caught:
                raise error(3)
            self.assertEqual(caught.exception.at, 3)
        with self.assertRaises(IndexError) as caught:
            raise NoRow(-1)
        self.assertNotIsInstance(caught.exception, WrapError)

    def test_not_iterable(self):
        for error in [WrapError(), InvalidWish(), InvalidOrder(), InvalidCommand(), InvalidRow([1])]:
            self.assertRaises(TypeError, iter, error)
        for error in WITH_AT:
            self.assertRaises(TypeError, iter, error([1]))


if __name__ == "__main__":
    unittest.main()
