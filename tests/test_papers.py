"""Promise [13]: the papers; and [1] to [3] as far as they speak about them."""

import itertools
import unittest

from outermost.papers import paper, paper_holds
from outermost.plays import begun
from outermost.stacks import Stack
from outermost.wishes import keeps, kept_wishes, standings
from tests import model
from tests.samples import large_stacks, small_stacks, stack
from tests.values import all_values, nested

NONE = (None, None)
YOUNG = (("ok", 2, False), None)
OLD = (("ok", 1, True), None)
OLDEST = (("ok", 0, True), None)
RIGHT = (NONE, YOUNG, OLD, OLDEST)


def held():
    """The stack whose smallest paper is RIGHT, for each wish that it keeps."""
    return stack("keep good 2", "tries 2 fault")


def all_of_the_form(texts):
    """All standings that have the form of one for this stack, whether they can come or not."""
    things = []
    for text in texts:
        words = text.split(" ")
        of_row = [None]
        if words[0] == "keep":
            kept = ("ok", "spare") if words[1] == "good" else ("ok", "spare", "fault", "late", "denied")
            lefts = [None] if words[2] == "ever" else range(int(words[2]) + 1)
            of_row += itertools.product(kept, lefts, (False, True))
        things.append(of_row)
    return tuple(itertools.product(*things))


def is_right(texts, wish, value):
    """Whether standings of the right form are a right paper, by other means."""
    known = set(value)
    runs = [run for standing in known for run in model.runs_from(texts, standing)]
    behind = {model.ticked(standing) for standing in known} | {run.behind for run in runs}
    return (model.begun(texts) in known and behind <= known
            and not any(model.breaks(run, wish) for run in runs))


class PaperTest(unittest.TestCase):
    def test_paper_just_if_the_wish_is_kept(self):
        for texts in small_stacks() + large_stacks(120):
            each = stack(*texts)
            for wish in model.WISHES + ("bound 1", "bound 2"):
                value = paper(each, wish)
                self.assertIs(value is None, not keeps(each, wish))
                if value is not None:
                    self.assertIs(type(value), tuple)
                    self.assertIs(paper_holds(each, wish, value), True)
                    self.assertTrue(is_right(texts, wish, value))
                self.assertIs(paper_holds(each, wish, standings(each)), keeps(each, wish))

    def test_by_hand(self):
        for wish in ("kept", "spare", "once", "tries", "bound 2"):
            self.assertIs(paper_holds(held(), wish, RIGHT), True)
            self.assertIs(paper_holds(held(), wish, paper(held(), wish)), True)
        for wish in ("calm", "fresh", "leave", "bound 1"):
            self.assertIs(paper(held(), wish), None)
            self.assertIs(paper_holds(held(), wish, RIGHT), False)

    def test_no_rows(self):
        self.assertIs(paper_holds(Stack(), "kept", ((),)), True)
        self.assertIs(paper_holds(Stack(), "kept", ((), ())), True)
        self.assertIs(paper_holds(Stack(), "calm", ((),)), False)
        self.assertIs(paper_holds(Stack(), "kept", ()), False)
        self.assertEqual(set(paper(Stack(), "kept")), {()})

    def test_arguments_by_name(self):
        self.assertIs(paper_holds(stack=held(), wish="kept", value=RIGHT), True)
        self.assertEqual(paper(wish="kept", stack=held()), paper(held(), "kept"))


class SpoiltTest(unittest.TestCase):
    def assert_no_paper(self, value, wish="kept"):
        self.assertIs(paper_holds(held(), wish, value), False)

    def test_left_out(self):
        for at in range(4):
            self.assert_no_paper(RIGHT[:at] + RIGHT[at + 1:])
        self.assert_no_paper(())
        self.assert_no_paper((NONE,))

    def test_each_standing_left_out_of_larger_ones(self):
        for texts in (("keep all 1", "leave", "soft all"), ("tries 2 all", "keep all 0", "leave", "keep all ever")):
            each = stack(*texts)
            for wish in kept_wishes(each):
                value = paper(each, wish)
                # All standings of the smallest paper are needed.
                for at in range(len(value)):
                    self.assertIs(paper_holds(each, wish, value[:at] + value[at + 1:]), False)

    def test_twice_and_in_another_order(self):
        for value in itertools.permutations(RIGHT):
            self.assertIs(paper_holds(held(), "kept", value), True)
            self.assertIs(paper_holds(held(), "kept", value + value[1:3]), True)
        self.assertIs(paper_holds(held(), "kept", RIGHT * 125), True)
        self.assertIs(paper_holds(held(), "kept", RIGHT[1:] * 166), False)

    def test_more_standings_than_can_come(self):
        # Of the right form, and each event leads to a standing of the paper.
        for more in (
            ((("ok", 2, True), None),), ((("ok", 1, False), None),), ((("ok", 0, False), None),),
            ((("spare", 0, True), None),), ((("spare", 1, True), None), (("spare", 0, True), None)),
        ):
            self.assertIs(paper_holds(held(), "kept", RIGHT + more), True)
            self.assertIs(paper_holds(held(), "kept", more + RIGHT), True)
        # The tick leads to one that is not there.
        self.assert_no_paper(RIGHT + ((("spare", 2, False), None),))
        self.assert_no_paper(RIGHT + ((("spare", 1, True), None),))

    def test_a_standing_more_that_breaks_the_wish(self):
        texts = ("keep all 0", "soft fault")
        value = ((None, None), (("ok", 0, False), None), (("spare", 0, False), None))
        self.assertIs(paper_holds(stack(*texts), "kept", value), True)
        for word in ("fault", "late", "denied"):
            more = value + (((word, 0, False), None),)
            self.assertIs(paper_holds(stack(*texts), "kept", more), False)
            self.assertIs(paper_holds(stack(*texts), "once", more), True)
        self.assertIs(paper_holds(stack(*texts), "fresh", value), True)
        self.assertIs(paper_holds(stack(*texts), "fresh", value + ((("ok", 0, True), None),)), False)

    def test_each_part_otherwise(self):
        wrong = {
            0: all_values() + ["fault", "late", "denied", "OK", "spares", "good"],
            1: [value for value in all_values() if type(value) is not int] + [3, 4, -1, 10 ** 30, True, False, None, "1"],
            2: [value for value in all_values() if type(value) is not bool] + [0, 1, None, "False"],
        }
        for at, values in wrong.items():
            for standing in RIGHT[1:]:
                for value in values:
                    thing = list(standing[0])
                    thing[at] = value
                    # As one more, and in the place of the right one.
                    self.assert_no_paper(RIGHT + ((tuple(thing), None),))
                    self.assert_no_paper(tuple((tuple(thing), None) if each == standing else each for each in RIGHT))

    def test_bools_for_numbers_and_numbers_for_bools(self):
        # Python has all of these equal to the right ones.
        self.assertEqual((("ok", True, True), None), OLD)
        for thing in (("ok", True, True), ("ok", 1, 1), ("ok", True, 1)):
            self.assert_no_paper((NONE, YOUNG, (thing, None), OLDEST))
            self.assert_no_paper(RIGHT + ((thing, None),))
        for thing in (("ok", False, True), ("ok", 0, 1)):
            self.assert_no_paper((NONE, YOUNG, OLD, (thing, None)))
        self.assert_no_paper((NONE, (("ok", 2, 0), None), OLD, OLDEST))

    def test_left_for_ever(self):
        each = stack("keep good ever")
        value = ((None,), (("ok", None, False),), (("ok", None, True),))
        self.assertIs(paper_holds(each, "kept", value), True)
        for left in (0, 1, 2, 3, False, True, "ever", ()):
            self.assertIs(paper_holds(each, "kept", value + ((("ok", left, True),),)), False)
            self.assertIs(paper_holds(each, "kept", value[:2] + ((("ok", left, True),),)), False)
        self.assert_no_paper(RIGHT + ((("ok", None, True), None),))

    def test_lists_for_tuples(self):
        self.assert_no_paper(list(RIGHT))
        for at in range(4):
            self.assert_no_paper(RIGHT[:at] + (list(RIGHT[at]),) + RIGHT[at + 1:])
            self.assert_no_paper(RIGHT + (list(RIGHT[at]),))
            if at > 0:
                standing = (list(RIGHT[at][0]), None)
                self.assert_no_paper(RIGHT[:at] + (standing,) + RIGHT[at + 1:])
                self.assert_no_paper(RIGHT + (standing,))

    def test_other_lengths(self):
        for standing in ((), (None,), (None, None, None), YOUNG + (None,), YOUNG[:1]):
            self.assert_no_paper(RIGHT + (standing,))
        for thing in ((), ("ok",), ("ok", 2), ("ok", 2, False, None), "ok", "okx", ("ok", 2, False, False)):
            self.assert_no_paper(RIGHT + ((thing, None),))

    def test_other_lengths_that_each_event_leads_to(self):
        for more in (None, ("ok", 2, False)):
            self.assert_no_paper(RIGHT + tuple(standing + (more,) for standing in RIGHT))
        self.assert_no_paper(RIGHT + tuple(standing[:1] for standing in RIGHT))

    def test_left_above_the_life(self):
        # The tick behind it leads to a standing that is there and may be there.
        more = ((("ok", 2, True), None),)
        self.assertIs(paper_holds(held(), "kept", RIGHT + more), True)
        for is_old in (False, True):
            self.assert_no_paper(RIGHT + more + ((("ok", 3, is_old), None),))

    def test_something_at_a_row_that_keeps_nothing(self):
        for value in all_values() + [("ok", 2, False), ("ok", None, False)]:
            if value is not None:
                self.assert_no_paper(RIGHT + ((None, value),))
                self.assert_no_paper(((None, value),) + RIGHT[1:])

    def test_any_values(self):
        for value in all_values():
            for each in (held(), stack("keep all ever"), stack("leave", "soft all", "count")):
                for wish in ("kept", "bound 6"):
                    self.assertIs(paper_holds(each, wish, value), False)
                    self.assertIs(paper_holds(each, wish, (value,)), False)
                    self.assertIs(paper_holds(each, wish, [value]), False)
                    self.assertIs(paper_holds(each, wish, standings(each) + (value,)), False)
        self.assert_no_paper(nested(RIGHT, 5))
        self.assert_no_paper("kept")
        self.assert_no_paper({NONE: YOUNG})
        self.assert_no_paper(None)

    def test_value_stays(self):
        value = [NONE, [("ok", 2, False), None], [["ok"]]]
        self.assert_no_paper(value)
        self.assertEqual(value, [NONE, [("ok", 2, False), None], [["ok"]]])


class OtherStackTest(unittest.TestCase):
    def test_paper_of_another_stack(self):
        self.assertIs(paper_holds(stack("keep good 2", "tries 3 fault"), "kept", RIGHT), True)
        self.assertIs(paper_holds(stack("keep all 2", "soft fault"), "kept", RIGHT), False)
        for texts in (
            ("keep good 1", "tries 2 fault"), ("keep good 3", "tries 2 fault"), ("keep good ever", "tries 2 fault"),
            ("keep good 2",), ("keep good 2", "tries 2 fault", "count"), ("tries 2 fault", "keep good 2"),
            ("keep good 2", "soft fault"), ("keep all 2", "leave"), (), ("count", "count"),
        ):
            self.assertIs(paper_holds(stack(*texts), "kept", RIGHT), False)
            self.assertIs(paper_holds(stack(*texts), "bound 6", RIGHT), False)

    def test_papers_of_many_stacks(self):
        stacks = [("keep good 1",), ("keep all 1",), ("keep good ever",), ("keep all ever",), ("leave",), ("count",),
                  ("soft all", "keep good 1"), ("keep good 1", "soft all"), ("keep all 1", "soft all"),
                  ("keep all 1", "leave"), ("leave", "keep all 1"), ("keep good 0", "keep all 1"), ("count", "leave")]
        for texts in stacks:
            for other in stacks:
                for wish in model.WISHES:
                    value = standings(stack(*other))
                    expected = set(value) <= set(all_of_the_form(texts)) and is_right(texts, wish, value)
                    self.assertIs(paper_holds(stack(*texts), wish, value), expected, (texts, other, wish))


class FormTest(unittest.TestCase):
    """All standings of the form, whether they can come or not."""

    def test_all_at_once(self):
        for texts in (("keep all 3", "soft all"), ("keep good ever",), ("keep all 1", "limit 1", "keep good 0"),
                      ("tries 2 all", "keep all ever", "leave", "keep all 1")):
            value = all_of_the_form(texts)
            for wish in model.WISHES + ("bound 1", "bound 2"):
                self.assertIs(paper_holds(stack(*texts), wish, value), is_right(texts, wish, value))

    def test_some_of_them(self):
        texts = ("keep all 1", "keep good 0")
        value = all_of_the_form(texts)
        for at in range(len(value)):
            some = value[:at] + value[at + 1:]
            for wish in ("once", "kept"):
                self.assertIs(paper_holds(stack(*texts), wish, some), is_right(texts, wish, some))

    def test_five_hundred_standings(self):
        texts = ("tries 2 all", "keep all 1", "leave", "keep all 1", "soft all", "tries 2 fault")
        value = all_of_the_form(texts)
        self.assertEqual(len(value), 441)
        value += value[:59]
        self.assertIs(paper_holds(stack(*texts), "once", value), True)
        self.assertIs(paper_holds(stack(*texts), "bound 2", value), True)
        self.assertIs(paper_holds(stack(*texts), "kept", value), False)
        self.assertIs(paper_holds(stack(*texts), "once", value[1:441]), False)


if __name__ == "__main__":
    unittest.main()
