"""The examples of the document answer as they are printed."""

import doctest

from tests.guard import Guarded

SAYINGS = '''
>>> from onlyseen.sayings import copies, is_saying, letters_at, plays, seen
>>> saying = (("x", "y"), (("a", ("x",)), ("b", ("y",))), ((("a", False), ("b", True), ("x", False)), (("a", True), ("x", False), ("y", True)), (("b", False), ("y", False))))
>>> [is_saying(saying), plays(saying)[1], seen(saying, "b", (True, False)), copies(saying)]
[True, (False, True), (False,), [('a', (False,)), ('a', (True,)), ('b', (False,)), ('b', (True,))]]
>>> letters_at(saying, (("a", True), ("x", False), ("y", True)), (True, False))
(('a', (True,), True),)
'''

ANSWERS = '''
>>> from onlyseen.answers import broken_at, fixed, holds, many, nth
>>> saying = (("x", "y"), (("a", ("x",)), ("b", ("y",))), ((("a", False), ("x", True)), (("a", True), ("b", True), ("x", False)), (("b", False), ("y", True))))
>>> [many(saying), nth(saying, 0), holds(saying, ((False, True), (False, False))), broken_at(saying, ((False, False), (False, False))), fixed(saying)]
[2, ((False, True), (False, False)), True, (1, (True, False)), [('a', (False,), False), ('a', (True,), True), ('b', (False,), False)]]
'''


class Examples(Guarded):

    def check(self, text, name, examples):
        told = []
        test = doctest.DocTestParser().get_doctest(text, {}, name, None, 0)
        result = doctest.DocTestRunner(verbose=False).run(test, out=told.append)
        self.assertEqual((result.failed, result.attempted), (0, examples), "".join(told))

    def test_point_10(self):
        self.check(SAYINGS, "point 10", 4)

    def test_point_11(self):
        self.check(ANSWERS, "point 11", 3)
