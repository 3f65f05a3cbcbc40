"""The examples of the document, word for word."""

import doctest
import unittest

EXAMPLES = r'''
    >>> from outermost.orders import clash, good, outside
    >>> from outermost.rows import Row
    >>> lot = [Row.read(text) for text in ("keep all ever", "leave", "soft all")]
    >>> good(lot, ["kept", "leave"]), outside(lot, ["kept", "leave"]), clash(lot, ["kept", "leave"])
    (((1, 0, 2),), ((0, 2), (1, 0), (1, 2)), None)

    >>> from outermost.plays import play
    >>> from outermost.stacks import Stack
    >>> stack = Stack.read("keep all 1\ntries 2 fault\ncount")
    >>> played = play(stack, ["in fault fault", "out", "tick", "in", "tick", "in ok"])
    >>> played.answers, played.tries, played.counts, played.behind
    (('fault', 'fault', None, 'fault', None, 'ok'), (2, 0, 0, 0, 0, 1), (None, None, 3), (('ok', 1, False), None, None))
    >>> played.given, played.broken
    (((1, 0, 'fault'), (3, 0, 'fault')), ((0, 'calm'), (0, 'once'), (1, 'kept'), (1, 'once'), (3, 'calm'), (3, 'fresh'), (3, 'kept'), (3, 'once')))

    >>> from outermost.wishes import breach, keeps, kept_wishes, most_tries, standings
    >>> kept_wishes(stack), most_tries(stack), len(standings(stack)), len(breach(stack, "kept")), breach(stack, "spare")
    (('spare', 'tries'), 2, 5, 2, None)
    >>> keeps(stack, "bound 2"), kept_wishes(Stack.read("leave\nsoft all\ncount\nlimit 2\ntries 3 all"))
    (True, ('calm', 'fresh', 'kept', 'leave', 'spare'))

    >>> from outermost.papers import paper, paper_holds
    >>> paper_holds(stack, "spare", paper(stack, "spare")), paper(stack, "kept"), paper_holds(stack, "spare", ())
    (True, None, False)

    >>> from outermost.orders import clash_holds, is_one, nearest, way
    >>> three = [Row.read("soft fault"), Row.read("tries 2 fault"), Row.read("limit 1")]
    >>> len(good(three, ["calm"])), outside(three, ["calm"]), is_one(three, ["calm"])
    (5, (), False)
    >>> clash_holds(three, ["calm"], ((0, 2, 1), (1, 2, 0), 0)), nearest(three, (2, 0, 1), ["calm"])
    (True, (0, 2, 1))
    >>> way(three, (0, 2, 1), (2, 1, 0), ["calm"])
    ((0, 2, 1), (0, 1, 2), (1, 0, 2), (1, 2, 0), (2, 1, 0))

    >>> from outermost.lots import enough, needless, twice
    >>> enough([Row.read("keep all ever")], [Row.read("leave"), Row.read("count"), Row.read("soft all")], ["kept", "leave"])
    (0, 2)
    >>> needless(Stack.read("soft all\ntries 2 fault"), ["calm"]), twice(Stack.read("tries 2 fault\ncount"), ["bound 2"])
    ((1,), (1,))

    >>> from outermost.logs import first_misfit, fitting, surely_outside, telling
    >>> hidden = [Row.read("leave"), Row.read("keep good ever")]
    >>> fitting(hidden, ["in ok", "out ok"]), surely_outside(hidden, ["in ok", "out ok"]), telling(hidden, 2)
    (((1, 0),), ((1, 0),), ('in ok', 'out denied'))
    >>> first_misfit(Stack.read("keep all ever"), ["in fault", "in ok"])
    1
'''


class DocumentTest(unittest.TestCase):
    def test_examples(self):
        examples = doctest.DocTestParser().get_doctest(EXAMPLES, {}, "examples", "DOC.md", 0)
        self.assertEqual(len(examples.examples), 27)
        told = []
        result = doctest.DocTestRunner(verbose=False).run(examples, out=told.append)
        self.assertEqual((result.failed, "".join(told)), (0, ""))


if __name__ == "__main__":
    unittest.main()
