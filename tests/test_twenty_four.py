"""Point 11 at 24 copies: many, nth, place, fixed come to their answers."""

import random

from onlyseen.answers import fixed, holds, many, nth, place
from onlyseen.errors import NoAnswers
from onlyseen.sayings import copies
from tests import oracle
from tests.guard import Guarded
from tests.samples import OWNS_OF_24, PICKS, odd_or_even, sayings_of_24, some_answers

F, T = False, True


class TwentyFour(Guarded):

    def check(self, saying, rng):
        self.assertEqual(len(copies(saying)), 24)
        truths = oracle.Truths(saying)
        count = truths.many()
        self.assert_same(many(saying), count)
        for number in {0, count // 3, count - 1, count} - {-1}:
            answers = nth(saying, number)
            self.assert_same(answers, truths.nth(number))
            if answers is not None:
                self.assertIs(holds(saying, answers), True)
                self.assert_same(place(saying, answers), number)
        for answers in [some_answers(rng, saying) for _ in range(2)]:
            self.assert_same(place(saying, answers), truths.place(answers))
        if count:
            self.assert_same(fixed(saying), truths.fixed())
        else:
            self.assert_refused(NoAnswers, saying, lambda: fixed(saying))
        return count

    def test_sayings_of_all_sorts(self):
        rng = random.Random(17)
        met = []
        for saying in sayings_of_24():
            met.append(self.check(saying, rng))
        self.assertIn(0, met)
        self.assertIn(2 ** 24, met)
        self.assertGreater(len([count for count in met if 0 < count < 2 ** 24]), 15)

    def test_without_clauses_all_answers_hold(self):
        for owns in OWNS_OF_24:
            saying = (PICKS, owns, ())
            self.assert_same(many(saying), 2 ** 24)
            self.assert_same(fixed(saying), [])
            last = tuple((T,) * 2 ** len(sight) for _, sight in owns)
            self.assert_same(nth(saying, 2 ** 24 - 1), last)
            self.assert_same(place(saying, last), 2 ** 24 - 1)
            self.assertIsNone(nth(saying, 2 ** 24))

    def test_the_empty_clause(self):
        for owns in OWNS_OF_24:
            saying = (PICKS, owns, ((),))
            self.assert_same([many(saying), nth(saying, 0)], [0, None])
            self.assert_refused(NoAnswers, saying, lambda: fixed(saying))

    def test_owns_that_must_be_alike_see_nothing_but_what_both_see(self):
        owns = (("a", ("u", "v", "w", "x")), ("b", ("u", "x", "y")))
        alike = ((("a", F), ("b", T)), (("a", T), ("b", F)))
        saying = (PICKS, owns, alike)
        # Both hang on u and x alone then: four truths are free.
        self.assert_same(many(saying), 2 ** 4)
        self.assert_same(fixed(saying), [])
        unlike = ((("a", F), ("b", F)), (("a", T), ("b", T)))
        self.assert_same(many((PICKS, owns, unlike)), 2 ** 4)
        both = (PICKS, owns, tuple(sorted(alike + unlike)))
        self.assert_same([many(both), nth(both, 0)], [0, None])

    def test_sums_of_all_owns(self):
        owns = OWNS_OF_24[4]
        # 24 truths less the 13 products of picks that some own can tell.
        self.assert_same(many((PICKS, owns, tuple(sorted(odd_or_even("abcdef", F))))), 2 ** 11)
        self.assert_same(many((PICKS, owns, tuple(sorted(odd_or_even("abcdef", T))))), 2 ** 11)

    def test_each_copy_by_itself(self):
        owns = OWNS_OF_24[4]
        clauses = tuple(sorted((("a", F), (pick, T)) for pick in PICKS[:2])) + ((("b", T), ("w", F)),)
        saying = (PICKS, owns, tuple(sorted(clauses)))
        # a is False but where it sees u and v, b is True where it sees w.
        self.assert_same(many(saying), 2 ** (24 - 3 - 2))
        self.assert_same(fixed(saying), [("a", (F, F), F), ("a", (T, F), F), ("a", (F, T), F),
                                         ("b", (T, F), T), ("b", (T, T), T)])
