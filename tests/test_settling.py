"""Point 13: settle, has_answers, first_answers, follows, against; fact S1; the guarantees of them."""

import random

from onlyseen.errors import InvalidClause, NoAnswers
from onlyseen.refutations import refutes
from onlyseen.settling import against, first_answers, follows, has_answers, settle
from tests import checker, oracle
from tests.guard import Guarded
from tests.samples import (
    BARRED, EMPTY, NO_CLAUSES, NO_OWNS, NO_PICKS, SAYINGS, SMALL, THREE, WITHOUT_ANSWERS, parity_sayings,
    random_clause, some_sayings, tight_sayings,
)

F, T = False, True


def small_sayings():
    """Sayings with few copies, some with answers and some without."""
    return SAYINGS + some_sayings(13, 60, 9, 8) + tight_sayings(13, 160, 10, 24) + parity_sayings()[:1]


class Settling(Guarded):

    def check_settled(self, saying, wanted):
        """What settle tells, by the oracle's own look at it; wanted is whether there are answers."""
        kind, told = settle(saying)
        if kind == "answers":
            self.assertIs(oracle.answers(saying, told), T)
            self.assertIsNone(oracle.broken_at(saying, told))
        else:
            self.assertEqual(kind, "refutation")
            self.assertIs(checker.refutes(saying, told), T)
            self.assertIs(refutes(saying, told), T)
        self.assertIs(kind == "answers", wanted)
        self.assertIs(has_answers(saying), wanted)

    def test_going_through_all_answers(self):
        met = set()
        for saying in small_sayings():
            truths = oracle.Truths(saying)
            count = truths.many()
            met.add(min(count, 3))
            self.check_settled(saying, count > 0)
            self.assert_same(first_answers(saying), truths.nth(0))
        self.assertEqual(met, {0, 1, 2, 3})

    def test_sayings_of_up_to_sixteen_copies(self):
        counts = [0, 0]
        for saying in tight_sayings(14, 120, 16, 40):
            truths = oracle.Truths(saying)
            counts[truths.many() > 0] += 1
            self.check_settled(saying, truths.many() > 0)
            self.assert_same(first_answers(saying), truths.nth(0))
        self.assertGreater(min(counts), 25)

    def test_the_edges(self):
        self.assert_same(settle(EMPTY), ("answers", ()))
        self.assert_same(settle(((), (), ())), ("answers", ()))
        self.assert_same(settle((("x",), (), ())), ("answers", ()))
        self.assert_same(settle(BARRED), ("refutation", (("play", 0, ()),)))
        self.assert_same([has_answers(EMPTY), has_answers(BARRED)], [T, F])
        self.assert_same([first_answers(EMPTY), first_answers(BARRED)], [(), None])
        self.assert_same(first_answers(NO_CLAUSES), ((F,), (F, F)))
        kind, refutation = settle(NO_OWNS)
        self.assertEqual((kind, len(refutation)), ("refutation", 1))
        self.assertIs(checker.refutes(NO_OWNS, refutation), T)
        always = (("x",), (("a", ()),), ((("a", F), ("x", T)), (("a", T),)))
        self.assertIs(has_answers(always), F)
        self.check_settled(always, F)
        self.assert_same(first_answers((("x",), (("a", ("x",)),), ((("a", T),),))), ((T, T),))
        self.assert_same(first_answers((("x",), (("a", ("x",)),), ((("a", T), ("x", F)),))), ((F, T),))
        self.assert_same(first_answers((("x",), (("a", ("x",)),), ((("a", T), ("x", T)),))), ((T, F),))

    def test_the_first_by_rows_of_copies(self):
        owns = (("a", ("x", "y")), ("b", ()))
        saying = (("x", "y"), owns, ((("a", F), ("x", T)), (("a", T), ("b", T), ("x", F))))
        self.assert_same(first_answers(saying), ((F, F, F, F), (T,)))
        saying = (("x", "y"), owns, ((("a", T), ("b", T), ("x", F), ("y", T)), (("b", F),)))
        self.assert_same(first_answers(saying), ((F, T, F, F), (F,)))
        saying = (("x", "y"), owns, ((("a", T), ("b", T), ("x", T), ("y", F)), (("b", F),)))
        self.assert_same(first_answers(saying), ((F, F, T, F), (F,)))

    def test_what_is_odd_and_even(self):
        sayings = parity_sayings()
        for saying in sayings[:6]:
            self.check_settled(saying, F)
            self.assertIsNone(first_answers(saying))
        for saying in sayings[6:]:
            self.check_settled(saying, T)
            found = first_answers(saying)
            self.assertIsNone(oracle.broken_at(saying, found))
        self.assert_same(first_answers(sayings[6]), oracle.Truths(sayings[6]).nth(0))


class Following(Guarded):

    def check(self, saying, truths, clause):
        wanted = truths.follows(clause)
        self.assertIs(follows(saying, clause), wanted)
        told = against(saying, clause)
        if wanted:
            self.assertIsNone(told)
        else:
            self.assertEqual((type(told), len(told)), (tuple, 2))
            answers, play = told
            self.assertIs(oracle.answers(saying, answers) and oracle.play(saying, play), T)
            self.assertIsNone(oracle.broken_at(saying, answers))
            self.assertFalse(any(oracle.is_so(saying, answers, one, play) for one in clause))
        return wanted

    def test_going_through_all_answers(self):
        rng = random.Random(130)
        counts = [0, 0]
        for saying in small_sayings():
            truths = oracle.Truths(saying)
            if truths.many():
                for clause in [random_clause(rng, saying[0], saying[1], 4) for _ in range(12)] + list(saying[2]):
                    counts[self.check(saying, truths, clause)] += 1
        self.assertGreater(min(counts), 300)

    def test_each_letter_and_its_contrary(self):
        for saying in [SMALL, THREE, NO_PICKS] + tight_sayings(15, 20, 12, 14):
            truths = oracle.Truths(saying)
            if truths.many():
                for name in list(saying[0]) + [own[0] for own in saying[1]]:
                    self.check(saying, truths, ((name, T),))
                    self.check(saying, truths, ((name, F),))

    def test_the_edges(self):
        self.assert_same([follows(EMPTY, ()), against(EMPTY, ())], [F, ((), ())])
        self.assertIs(follows(SMALL, ()), F)
        picks_alone = (("x", F), ("y", T))
        self.assertIs(follows(SMALL, picks_alone), F)
        answers, play = against(SMALL, picks_alone)
        self.assertIsNone(oracle.broken_at(SMALL, answers))
        self.assert_same(play, (T, F))
        for clause in SMALL[2]:
            self.assertIs(follows(SMALL, clause), T)
            self.assertIsNone(against(SMALL, clause))
        # Not so at one play alone, by one of many answers.
        saying = (("x", "y"), (("a", ("x", "y")), ("b", ())), ((("a", T), ("b", F)), (("a", T), ("x", F))))
        self.assertIs(follows(saying, (("a", T), ("b", T), ("y", T))), F)
        self.assertIs(follows(saying, (("a", T), ("b", F), ("y", T))), T)

    def test_the_first_clauses_that_do_not_stand(self):
        saying = (("x",), (("a", ("x",)), ("b", ("x",)), ("c", ())), (
            (("a", F), ("b", T)), (("a", T), ("x", F)), (("b", F), ("c", T)),
        ))
        self.assertIs(follows(saying, (("c", T),)), T)
        self.assertIs(follows(saying, (("b", T), ("x", F))), T)
        self.assertIs(follows(saying, (("b", T),)), F)
        self.assertIs(follows(saying, (("b", T), ("x", T))), F)

    def test_no_answers_ahead_of_a_wrong_clause(self):
        for saying in (BARRED, WITHOUT_ANSWERS, NO_OWNS, parity_sayings()[3]):
            for clause in [(), (("x", T),), (("q", T),), [], None, ["x"], {"a": [1]}, saying, ((1, 2),)]:
                for function in (follows, against):
                    self.assert_refused(NoAnswers, saying, lambda: function(saying, clause))
                    self.assert_refused(NoAnswers, saying, lambda: function(clause=clause, saying=saying))
        for wrong in [(("q", T),), [], None, ["x"], {"a": [1]}, ((1, 2),), (("b", T), ("a", T))]:
            for function in (follows, against):
                self.assert_refused(InvalidClause, wrong, lambda: function(SMALL, wrong))


class Facts(Guarded):

    def test_s1_answers_or_a_refutation_never_both(self):
        for saying in tight_sayings(16, 80, 10, 30):
            kind, told = settle(saying)
            if kind == "answers":
                for other in tight_sayings(17, 6, 10, 30):
                    _, refutation = settle(other)
                    self.assertIs(refutes(saying, refutation), F)
            else:
                self.assertIsNone(first_answers(saying))
                self.assertEqual(oracle.Truths(saying).many(), 0)
