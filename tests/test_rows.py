"""Promise [5]: the rows; and [1] to [3] as far as they speak about rows."""

import unittest

from outermost.errors import InvalidRow, InvalidText
from outermost.rows import Count, Keep, Leave, Lend, Limit, Row, Soft, Tries
from tests.values import NO_ROW_TEXTS, ROW_TEXTS, all_values, made_rows

KINDS = (Keep, Tries, Limit, Leave, Soft, Count, Lend)


def is_among(value, values):
    """Whether a value is one of these integers and strings (or None), and not only equal to one."""
    return any(type(value) is type(other) and value == other for other in values)


class ArgumentsTest(unittest.TestCase):
    def assert_wrong(self, word, kind, *arguments, **named):
        with self.assertRaises(InvalidRow) as caught:
            kind(*arguments, **named)
        self.assertEqual(caught.exception.word, word)

    def test_all_arguments_that_are_let(self):
        for what in ("good", "all"):
            for life in (None, 0, 1, 2, 3):
                row = Keep(what, life)
                self.assertEqual((row.what, row.life), (what, life))
        for many in (1, 2, 3):
            for on in ("fault", "all"):
                row = Tries(many, on)
                self.assertEqual((row.many, row.on), (many, on))
        for many in (1, 2, 3, 4, 5, 6):
            self.assertEqual(Limit(many).many, many)
        for on in ("fault", "all"):
            self.assertEqual(Soft(on).on, on)

    def test_defaults(self):
        self.assertEqual((Keep().what, Keep().life), ("good", None))
        self.assertEqual((Keep("all").what, Keep("all").life), ("all", None))
        self.assertEqual((Keep(life=2).what, Keep(life=2).life), ("good", 2))
        self.assertEqual((Tries(3).many, Tries(3).on), (3, "fault"))
        self.assertEqual(Soft().on, "fault")

    def test_arguments_by_name(self):
        self.assertEqual(str(Keep(life=1, what="all")), "keep all 1")
        self.assertEqual(str(Tries(on="all", many=2)), "tries 2 all")
        self.assertEqual(str(Limit(many=6)), "limit 6")
        self.assertEqual(str(Soft(on="all")), "soft all")

    def test_number_of_arguments(self):
        for kind in (Tries, Limit):
            self.assertRaises(TypeError, kind)
        for kind in (Leave, Count, Lend):
            self.assertRaises(TypeError, kind, 1)

    def test_each_wrong_argument(self):
        for value in all_values():
            with self.subTest(value=value):
                if not is_among(value, ("good", "all")):
                    self.assert_wrong("what", Keep, value)
                    self.assert_wrong("what", Keep, what=value, life=3)
                if not is_among(value, (None, 0, 1, 2, 3)):
                    self.assert_wrong("life", Keep, "good", value)
                    self.assert_wrong("life", Keep, life=value)
                if not is_among(value, (1, 2, 3)):
                    self.assert_wrong("many", Tries, value)
                    self.assert_wrong("many", Tries, many=value, on="all")
                if not is_among(value, (1, 2, 3, 4, 5, 6)):
                    self.assert_wrong("many", Limit, value)
                if not is_among(value, ("fault", "all")):
                    self.assert_wrong("on", Tries, 1, value)
                    self.assert_wrong("on", Soft, value)
                    self.assert_wrong("on", Soft, on=value)

    def test_two_wrong_arguments(self):
        for value in (True, -1, 9, "ever", [], (1,), Leave()):
            self.assert_wrong("what", Keep, value, value)
            self.assert_wrong("many", Tries, value, value)
        self.assert_wrong("what", Keep, life=4, what="fault")
        self.assert_wrong("many", Tries, on="good", many=4)

    def test_edges(self):
        self.assert_wrong("life", Keep, "all", 4)
        self.assert_wrong("life", Keep, "all", -1)
        self.assert_wrong("many", Tries, 4)
        self.assert_wrong("many", Tries, 0)
        self.assert_wrong("many", Limit, 7)
        self.assert_wrong("many", Limit, 0)
        self.assert_wrong("what", Keep, "fault")
        self.assert_wrong("on", Soft, "good")
        self.assert_wrong("life", Keep, "good", "ever")
        self.assert_wrong("many", Limit, "1")


class TextsTest(unittest.TestCase):
    def test_texts(self):
        self.assertEqual(tuple(str(row) for row in made_rows()), ROW_TEXTS)

    def test_default_texts(self):
        self.assertEqual([str(row) for row in (Keep(), Tries(1), Soft())],
                         ["keep good ever", "tries 1 fault", "soft fault"])

    def test_read_again_the_same(self):
        for row in made_rows():
            again = Row.read(str(row))
            self.assertIs(type(again), type(row))
            self.assertEqual(vars(again), vars(row))
            self.assertEqual(again, row)
            self.assertEqual(str(again), str(row))
            self.assertEqual(Row.read(text=str(row)), row)

    def test_texts_of_no_row(self):
        texts = NO_ROW_TEXTS + ("\n", "leave\n", "\nleave", "leave\ncount", "limit\n1", "keep good ever\n")
        for text in texts:
            with self.subTest(text=text):
                with self.assertRaises(InvalidText) as caught:
                    Row.read(text)
                self.assertEqual(caught.exception.at, 0)

    def test_texts_with_one_character_changed(self):
        for text in ROW_TEXTS:
            for at in range(len(text)):
                for changed in (text[:at] + text[at + 1:], text[:at] + "x" + text[at:], text[:at] + " " + text[at:]):
                    with self.assertRaises(InvalidText):
                        Row.read(changed)


class EqualityTest(unittest.TestCase):
    def test_equal_just_if_the_texts_are(self):
        for row in made_rows():
            for other in made_rows():
                is_same = str(row) == str(other)
                self.assertIs(row == other, is_same)
                self.assertIs(row != other, not is_same)

    def test_equal_to_nothing_else(self):
        rows = made_rows()
        for row in rows:
            for value in all_values() + [str(row), [row], (row,), type(row), row.words()]:
                if not isinstance(value, Row):
                    self.assertIs(row == value, False)
                    self.assertIs(value == row, False)
                    self.assertIs(row != value, True)

    def test_not_iterable(self):
        for row in made_rows():
            self.assertRaises(TypeError, iter, row)
            self.assertRaises(TypeError, list, row)

    def test_same_call_same_result(self):
        for text in ROW_TEXTS:
            row = Row.read(text)
            before = dict(vars(row))
            self.assertEqual((str(row), str(row), row == Row.read(text)), (text, text, True))
            self.assertEqual(vars(row), before)

    def test_classes(self):
        for kind in KINDS:
            self.assertTrue(issubclass(kind, Row))
            for other in KINDS:
                self.assertEqual(issubclass(kind, other), kind is other)


if __name__ == "__main__":
    unittest.main()
