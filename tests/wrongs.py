"""Objects that are no sayings, for the tests of what is refused."""

import itertools

from tests import oracle
from tests.samples import LARGEST_OWNS, PICKS, SMALL

F, T = False, True


def wrong_sayings(values):
    return [value for value in values if not oracle.saying(value)]


def near_sayings():
    """Objects that are nearly sayings."""
    one_more = (PICKS, LARGEST_OWNS + (("e", ()),), ())
    names = tuple("abcdefgh")
    forty_one = tuple(sorted(tuple(zip(names[:6], truths)) for truths in itertools.product([F, T], repeat=6)))[:41]
    return [
        list(SMALL), SMALL[:2], SMALL + ((),), (list(SMALL[0]),) + SMALL[1:], (SMALL[0], list(SMALL[1]), SMALL[2]),
        (SMALL[0], SMALL[1], list(SMALL[2])), (SMALL[0], [["a", ["x"]], ["b", ["y"]]], []), one_more,
        (PICKS + ("zz",), (), ()), ((), tuple((name, ()) for name in names + ("i",)), ()),
        ((), tuple((name, ()) for name in names), forty_one), (("aaaaaaaaa",), (), ()), (("x",), (("x", ()),), ()),
        (SMALL[0], SMALL[1], SMALL[2] + (((("a", 1),),),)), (SMALL[0], SMALL[1], [[[["a", T]], []]]),
    ]
