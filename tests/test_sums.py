"""Point 32: rows of sums; fact E3."""

import itertools
import random

from onlyseen.easy import is_sums, sums_answers, sums_hold, sums_paper, sums_paper_holds
from onlyseen.errors import InvalidAnswers, InvalidSums
from tests import oracle, second
from tests.guard import Guarded
from tests.kinds import planted_sums, some_sums
from tests.samples import LARGEST_OWNS, PICKS, mutants, some_answers, strangers

F, T = False, True

# Of the document, point 32.
TOLD = (("x", "y"), (("a", ("x",)), ("b", ("y",))), ((("a", "b", "x", "y"), T),))
BARRED = (("x", "y"), (("a", ("x",)),), ((("a", "y"), F),))

NOTHING = ((), (), ())
ROWS = [
    TOLD, BARRED, NOTHING, (("x",), (), ()), ((), (("a", ()),), ()), ((), (), (((), F),)), ((), (), (((), T),)),
    ((), (), (((), F), ((), T))), ((), (("a", ()),), ((("a",), T),)), ((), (("a", ()),), ((("a",), F), (("a",), T))),
    (("x",), (("a", ("x",)),), ((("a", "x"), T),)), (("x",), (("a", ()),), ((("a", "x"), T),)),
    (("x",), (), ((("x",), T),)), (("x", "y"), (("a", ("x", "y")),), ((("a", "x", "y"), T), (("x",), F))),
    (("x",), (("a", ("x",)), ("b", ())), ((("a",), T), (("a", "b"), F), (("b", "x"), F))),
]


def wrong_rows():
    """Objects that are nearly rows of sums."""
    forty_one = tuple(sorted((names, truth) for truth in (F, T) for many in (1, 2, 3)
                             for names in itertools.combinations("abcdef", many)))
    six = tuple((name, ()) for name in "abcdef")
    return [
        list(TOLD), TOLD[:2], TOLD + ((),), (["x", "y"],) + TOLD[1:], (TOLD[0], list(TOLD[1]), TOLD[2]),
        (TOLD[0], TOLD[1], list(TOLD[2])), (TOLD[0], TOLD[1], ([("a",), T],)), (TOLD[0], TOLD[1], ((["a"], T),)),
        (TOLD[0], TOLD[1], ((("a",), 1),)), (TOLD[0], TOLD[1], ((("a",), T, T),)), (TOLD[0], TOLD[1], ((("a",),),)),
        (TOLD[0], TOLD[1], ((("c",), T),)), (TOLD[0], TOLD[1], ((("b", "a"), T),)), (TOLD[0], TOLD[1], ((("a", "a"), T),)),
        (TOLD[0], TOLD[1], (("a", T),)), (TOLD[0], TOLD[1], ((("a",), T), (("a",), F))), (TOLD[0], TOLD[1], (None,)),
        (TOLD[0], TOLD[1], ((("a",), T), (("a",), T))), (TOLD[0], TOLD[1], ((("x",), F), (("a",), T))),
        (("y", "x"),) + TOLD[1:], (TOLD[0], TOLD[1][::-1], TOLD[2]), (("x", "y"), (("x", ("y",)),), ()),
        (("x", "y"), (("a", ("z",)),), ()), (PICKS + ("zz",), (), ()), (PICKS, LARGEST_OWNS + (("e", ()),), ()),
        ((), tuple((name, ()) for name in "abcdefghi"), ()), ((), six, forty_one[:41]), (("aaaaaaaaa",), (), ()),
        (TOLD[0], TOLD[1], {}), (TOLD[0], TOLD[1], None), (TOLD[0], TOLD[1], ((({},), T),)),
        (TOLD[0], TOLD[1], ((("a", []), T),)), (TOLD[0], TOLD[1], (((), None),)),
    ]


class IsSums(Guarded):

    def test_rows(self):
        for row in ROWS + some_sums(330, 60):
            self.assertIs(is_sums(row), T)
            self.assertIs(is_sums(value=row), T)
        names = tuple((name, ()) for name in "abcdef")
        forty = sorted((chosen, truth) for truth in (F, T) for many in (1, 2, 3)
                       for chosen in itertools.combinations("abcdef", many))[:40]
        self.assertIs(is_sums(((), names, tuple(forty))), T)
        self.assertIs(is_sums((PICKS, LARGEST_OWNS, ((("a", "b", "c", "d") + PICKS, T),))), T)

    def test_any_object(self):
        for value in strangers() + wrong_rows():
            self.assertIs(is_sums(value), F)
        for row in (ROWS[0], ROWS[-1]):
            for value in mutants(row):
                self.assertIs(is_sums(value), second.sums(value))


class Sums(Guarded):

    def test_e3_answers_or_a_paper(self):
        met = [0, 0]
        for row in ROWS + some_sums(331, 300, 8):
            every = oracle.every_answers(row[:2] + ((),))
            some = any(second.sums_hold(row, by) for by in every)
            found, paper = sums_answers(row), sums_paper(row)
            if some:
                self.assertIs(oracle.answers(row[:2] + ((),), found), T)
                self.assertIs(second.sums_hold(row, found), T)
                self.assertIs(sums_hold(row, found), T)
                self.assertIsNone(paper)
                self.assertEqual(second.papers(row), [])
            else:
                self.assertIsNone(found)
                self.assertIs(second.sums_paper(row, paper), T)
                self.assertIs(sums_paper_holds(row, paper), T)
            met[some] += 1
        self.assertGreater(min(met), 60)

    def test_holding_by_all_answers(self):
        met = [0, 0]
        for row in ROWS + some_sums(332, 60, 7, 3):
            for by in oracle.every_answers(row[:2] + ((),))[::3]:
                wanted = second.sums_hold(row, by)
                self.assertIs(sums_hold(row, by), wanted)
                met[wanted] += 1
        self.assertGreater(min(met), 100)
        self.assertIs(sums_hold(answers=((F, T), (T, F)), row=TOLD), T)

    def test_papers_by_going_through_all(self):
        met = [0, 0]
        for row in ROWS + some_sums(333, 80, 8, 4):
            for many in range(len(row[2]) + 1):
                for chosen in itertools.combinations(range(len(row[2])), many):
                    for pick in (None,) + row[0]:
                        wanted = second.sums_paper(row, (pick, chosen))
                        self.assertIs(sums_paper_holds(row, (pick, chosen)), wanted)
                        met[wanted] += 1
        self.assertGreater(min(met), 40)

    def test_papers_of_any_object(self):
        right = ("y", (0,))
        values = strangers() + list(mutants(right)) + [
            ["y", (0,)], ("y", [0]), ("y", (0,), ()), ("y",), (("y",), (0,)), ("a", (0,)), ("z", (0,)), (F, (0,)), ("", (0,)),
            (0, (0,)), ([], (0,)), ({}, (0,)), (b"y", (0,)), ("y", (F,)), ("y", (0, 0)), ("y", (1,)), ("y", (-1,)),
            ("y", 0), ("y", ()), (None, ()), ("y", (0, 1)), ("y", ("0",)), ("y", ([],)), ("y", (None,)), ("y", (10 ** 30,)),
        ]
        for row in (BARRED, TOLD, NOTHING, ROWS[6], ROWS[9]):
            for value in values:
                self.assertIs(sums_paper_holds(row, value), second.sums_paper(row, value))
        self.assertIs(sums_paper_holds(BARRED, right), T)
        self.assertIs(sums_paper_holds(value=right, row=BARRED), T)
        two = (("x",), (("a", ()),), ((("a",), F), (("a",), T)))
        for value, wanted in [((None, (0, 1)), T), ((None, (1, 0)), F), ((None, (0, 1, 1)), F), ((None, (F, T)), F),
                              (("x", (0, 1)), F), ((None, (0,)), F), ((None, (1,)), F)]:
            self.assertIs(sums_paper_holds(two, value), wanted)

    def test_the_edges(self):
        self.assert_same([sums_answers(NOTHING), sums_paper(NOTHING), sums_hold(NOTHING, ())], [(), None, T])
        for row in (ROWS[6], ROWS[7]):
            # A sum of no names that is to be odd.
            self.assert_same([sums_answers(row), sums_paper(row)], [None, (None, (len(row[2]) - 1,))])
            self.assertIs(sums_hold(row, ()), F)
        self.assert_same([sums_answers(ROWS[5]), sums_hold(ROWS[5], ())], [(), T])
        # A pick that no own sees.
        self.assert_same(sums_answers(ROWS[11]), None)
        self.assert_same(sums_paper(ROWS[11]), ("x", (0,)))
        self.assertIn(sums_paper(ROWS[12]), [("x", (0,)), (None, (0,))])
        # A pick in no sum, and an own in none.
        self.assert_same(sums_answers(((), (("a", ()), ("b", ())), ((("b",), T),)))[1], (T,))
        self.assert_same(sums_answers(ROWS[10]), ((T, F),))
        self.assert_same(sums_answers(ROWS[8]), ((T,),))

    def test_truths_of_papers_by_none(self):
        """With None the truths together have to be odd; what stands there of picks is not asked."""
        row = (("x",), (("a", ("x",)),), ((("a",), T), (("a", "x"), F)))
        self.assert_same(second.papers(row), [(None, (0, 1)), ("x", (0, 1))])
        self.assertIn(sums_paper(row), second.papers(row))
        for value in second.papers(row):
            self.assertIs(sums_paper_holds(row, value), T)
        row = (("x",), (("a", ("x",)),), ((("a",), F), (("a", "x"), F)))
        self.assert_same([sums_paper_holds(row, (None, (0, 1))), sums_paper(row)], [F, ("x", (0, 1))])
        # Three sums of which each two fit.
        row = ((), tuple((name, ()) for name in "abc"), ((("a", "b"), T), (("a", "c"), T), (("b", "c"), T)))
        self.assert_same(sums_paper(row), (None, (0, 1, 2)))

    def test_the_greatest(self):
        met = [0, 0]
        for row in planted_sums(334, 40, 40):
            self.assertIs(second.sums(row), T)
            found, paper = sums_answers(row), sums_paper(row)
            if found is None:
                self.assertIs(second.sums_paper(row, paper), T)
                self.assertIs(sums_paper_holds(row, paper), T)
            else:
                self.assertIsNone(paper)
                self.assertIs(second.sums_hold(row, found), T)
            met[found is None] += 1
        self.assertGreater(min(met), 10)

    def test_answers_are_refused_in_turn(self):
        rng = random.Random(335)
        for row in ROWS + some_sums(336, 10):
            of = row[:2] + ((),)
            for wrong in strangers() + [list(some_answers(rng, of)), some_answers(rng, of) + ((T,),)]:
                if not oracle.answers(of, wrong):
                    self.assert_refused(InvalidAnswers, wrong, lambda: sums_hold(row, wrong))
        for wrong in wrong_rows():
            self.assert_refused(InvalidSums, wrong, lambda: sums_hold(wrong, None))
