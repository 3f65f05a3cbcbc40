"""The interface: names, arguments, and where they are defined; and [2] on arguments by name."""

import ast
import inspect
import pathlib
import unittest

from outermost import desk, errors, live, logs, lots, orders, papers, plays, rows, stacks, wishes
from outermost.desk import Desk
from outermost.live import Live
from outermost.plays import Played, play
from outermost.rows import Row
from outermost.stacks import Stack

PACKAGE = pathlib.Path(__file__).resolve().parent.parent / "outermost"

# The class, and its parameters with their defaults.
CLASSES = {
    errors: {
        "InvalidRow": "(word)", "InvalidStack": "(at)", "InvalidText": "(at)", "InvalidEvent": "(at)",
        "InvalidWish": "()", "InvalidOrder": "()", "InvalidLog": "(at)", "InvalidCommand": "()",
        "Refused": "(at)", "NoRow": "(at)",
    },
    rows: {
        "Keep": "(what='good', life=None)", "Tries": "(many, on='fault')", "Limit": "(many)", "Leave": "()",
        "Soft": "(on='fault')", "Count": "()", "Lend": "()",
    },
    stacks: {"Stack": "(rows=())"},
    live: {"Live": "(stack)"},
    desk: {"Desk": "()"},
}

FUNCTIONS = {
    plays: {"begun": "(stack)", "play": "(stack, events)"},
    wishes: {
        "keeps": "(stack, wish)", "kept_wishes": "(stack)", "breach": "(stack, wish)", "standings": "(stack)",
        "most_tries": "(stack)",
    },
    papers: {"paper": "(stack, wish)", "paper_holds": "(stack, wish, value)"},
    orders: {
        "stack_of": "(lot, order)", "good": "(lot, wishes)", "outside": "(lot, wishes)", "is_one": "(lot, wishes)",
        "clash": "(lot, wishes)", "clash_holds": "(lot, wishes, value)", "nearest": "(lot, order, wishes)",
        "way": "(lot, x, y, wishes)",
    },
    lots: {"enough": "(must, spares, wishes)", "needless": "(stack, wishes)", "twice": "(stack, wishes)"},
    logs: {
        "fits": "(stack, log)", "first_misfit": "(stack, log)", "fitting": "(lot, log)", "surely_outside": "(lot, log)",
        "telling": "(lot, longest)",
    },
}

METHODS = {
    Row: {"read": "(text)", "__eq__": None, "__str__": None},
    Stack: {
        "read": "(text)", "without": "(self, at)", "swapped": "(self, at)", "put": "(self, at, row)",
        "__add__": None, "__len__": None, "__getitem__": None, "__eq__": None, "__str__": None,
    },
    Live: {
        "do": "(self, event)", "several": "(self, events)", "put": "(self, at, row)", "take_off": "(self, at)",
        "swap": "(self, at)", "undo": "(self)", "trial": "(self)", "within": "(self, work)", "__len__": None,
        "stack": None, "standing": None, "events": None,
    },
    Desk: {"say": "(self, command)"},
}


class InterfaceTest(unittest.TestCase):
    def test_classes_and_their_arguments(self):
        for module, classes in CLASSES.items():
            for name, parameters in classes.items():
                made = getattr(module, name)
                self.assertEqual(made.__module__, module.__name__)
                self.assertEqual(str(inspect.signature(made)), parameters, name)

    def test_functions_and_their_arguments(self):
        for module, functions in FUNCTIONS.items():
            for name, parameters in functions.items():
                made = getattr(module, name)
                self.assertTrue(inspect.isfunction(made), name)
                self.assertEqual(made.__module__, module.__name__)
                self.assertEqual(str(inspect.signature(made)), parameters, name)

    def test_other_classes_are_defined_here(self):
        self.assertEqual(errors.WrapError.__module__, "outermost.errors")
        self.assertEqual(Played.__module__, "outermost.plays")
        self.assertEqual(Row.__module__, "outermost.rows")

    def test_methods_stand_in_the_class_itself(self):
        for made, methods in METHODS.items():
            for name, parameters in methods.items():
                self.assertIn(name, vars(made))
                if parameters is not None:
                    self.assertEqual(str(inspect.signature(getattr(made, name))), parameters, name)

    def test_read_is_a_class_method(self):
        self.assertIsInstance(vars(Row)["read"], classmethod)
        self.assertIsInstance(vars(Stack)["read"], classmethod)

    def test_attributes_are_set_on_each_object(self):
        self.assertEqual(vars(rows.Keep("all", 2)), {"what": "all", "life": 2})
        self.assertEqual(vars(rows.Tries(2)), {"many": 2, "on": "fault"})
        self.assertEqual(vars(rows.Limit(5)), {"many": 5})
        self.assertEqual(vars(rows.Soft("all")), {"on": "all"})
        self.assertEqual(vars(Stack()), {"rows": ()})
        self.assertEqual(vars(play(Stack(), ())), {
            "answers": (), "tries": (), "counts": (), "given": (), "behind": (), "broken": ()})

    def test_properties_and_live(self):
        for name in ("stack", "standing", "events"):
            self.assertIsInstance(vars(Live)[name], property)
        self.assertEqual(vars(Desk()), {"live": None})

    def test_init_is_empty_but_for_a_docstring(self):
        body = ast.parse((PACKAGE / "__init__.py").read_text(encoding="ascii")).body
        self.assertEqual(len(body), 1)
        self.assertIsInstance(body[0].value.value, str)


if __name__ == "__main__":
    unittest.main()
