"""What several tests need: a limit of time, and a strict look at objects and at errors."""

import signal
import sys
import time
import unittest

SECONDS = 120
MOST_SECONDS = 10


class Guarded(unittest.TestCase):
    """A test that fails if it does not come to its end, and that can look strictly."""

    def setUp(self):
        signal.signal(signal.SIGALRM, self.too_long)
        signal.alarm(SECONDS)

    def tearDown(self):
        signal.alarm(0)

    def too_long(self, number, frame):
        raise AssertionError(f"no answer within {SECONDS} seconds")

    def assert_same(self, found, wanted):
        """Equal, and of the same kinds at every depth: True is not 1, a tuple no list."""
        if not same(found, wanted):
            self.fail(f"{found!r} is not {wanted!r}")

    def assert_new(self, found, passed):
        """No list and no tuple of an error was passed, and no list stands in it twice."""
        old = {id(part) for part in inner_parts(passed)}
        lists = []
        for part in inner_parts(found):
            if part != ():
                self.assertNotIn(id(part), old, "a part of the error was passed")
            if type(part) is list:
                lists.append(id(part))
        self.assertEqual(len(lists), len(set(lists)), "a list stands twice in the error")

    def assert_refused(self, error, wrong, call):
        """The call raises this very error of this object, which stays as it is and is new in the error."""
        before = picture(wrong)
        with self.assertRaises(error) as caught:
            call()
        self.assertIs(type(caught.exception), error)
        self.assert_same(caught.exception.value, wrong)
        self.assert_new(caught.exception.value, wrong)
        self.assertEqual(picture(wrong), before, "what was passed has changed")


class Timed(Guarded):
    """A test that tells, behind its class, how long the slowest call of each function took."""

    @classmethod
    def setUpClass(cls):
        cls.slowest = {}

    @classmethod
    def tearDownClass(cls):
        told = [f"{name} {seconds:.2f} s" for name, seconds in sorted(cls.slowest.items())]
        print(f"\n{cls.__module__}.{cls.__name__}, slowest calls: {', '.join(told)}", file=sys.stderr)

    def timed(self, function, *passed):
        """What the function returns; it has to return within seconds."""
        start = time.perf_counter()
        value = function(*passed)
        took = time.perf_counter() - start
        self.slowest[function.__name__] = max(took, self.slowest.get(function.__name__, 0))
        self.assertLess(took, MOST_SECONDS, function.__name__)
        return value


def same(one, other):
    """Whether objects are equal and of the same kinds at every depth."""
    if type(one) is not type(other):
        return False
    if type(one) in (list, tuple):
        return len(one) == len(other) and all(same(a, b) for a, b in zip(one, other))
    if type(one) is dict:
        return list(one) == list(other) and all(same(one[key], other[key]) for key in one)
    return one == other


def inner_parts(value):
    """The lists and tuples of an object, itself too, each time that they stand in it; none in dicts and sets."""
    if type(value) in (list, tuple):
        yield value
        for part in value:
            yield from inner_parts(part)


def picture(value):
    """What an object is and what it holds, told so that any change of it shows."""
    if type(value) in (list, tuple):
        return (type(value), id(value), [picture(part) for part in value])
    if type(value) is dict:
        return (dict, id(value), [(repr(key), picture(value[key])) for key in value])
    return (type(value), id(value), repr(value))
