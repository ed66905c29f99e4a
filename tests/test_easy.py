"""Point 32: plain sayings and twos; facts E1 and E2."""

import itertools
import random

from onlyseen.easy import by_chains, chains, chains_hold, is_plain, is_twos, least_true
from onlyseen.errors import NotPlain, NotTwos
from onlyseen.settling import has_answers
from tests import oracle, second
from tests.guard import Guarded
from tests.kinds import plain_saying, twos_saying
from tests.samples import (
    BARRED, EMPTY, NO_CLAUSES, NO_OWNS, NO_PICKS, SAYINGS, SMALL, THREE, WITHOUT_ANSWERS, great_sayings, mutants,
    some_sayings, strangers, tight_sayings,
)

F, T = False, True

# Of the document, point 32.
TOLD = (("x",), (("a", ()), ("b", ("x",))), ((("a", F), ("b", T)), (("a", T), ("x", F))))
OTHER = (("x",), (("a", ()),), ((("a", F), ("x", T)), (("a", T), ("x", F))))
PAPER = ((("a", (), T), ("a", (), F)), (("a", (), F), ("a", (), T)))

# Clauses of two letters of owns, without answers, but not so by letters told alone.
ROUND = ((), (("a", ()), ("b", ())), tuple(sorted(
    tuple(zip("ab", truths)) for truths in itertools.product([F, T], repeat=2))))


def plains(seed, many, copies=10, clauses=12):
    rng = random.Random(seed)
    return [plain_saying(rng, copies, clauses) for _ in range(many)]


def some_twos(seed, many, copies=10, clauses=14):
    rng = random.Random(seed)
    return [twos_saying(rng, copies, clauses) for _ in range(many)]


class Kinds(Guarded):

    def test_by_the_letters_of_owns(self):
        met = set()
        for saying in SAYINGS + some_sayings(320, 150) + plains(321, 50) + some_twos(322, 50) + great_sayings(323, 4):
            wanted = (second.plain(saying), second.twos(saying))
            self.assert_same((is_plain(saying), is_twos(saying)), wanted)
            met.add(wanted)
        self.assertEqual(len(met), 4)

    def test_letters_of_picks_do_not_count(self):
        owns = (("a", ()), ("b", ("x",)), ("c", ()))
        for clause, wanted in [
            ((), (T, F)), ((("x", T),), (T, F)), ((("x", T), ("y", T)), (T, F)), ((("a", T), ("x", T), ("y", T)), (T, T)),
            ((("a", T), ("b", T)), (F, T)), ((("a", T), ("b", F)), (T, T)), ((("a", F), ("b", F)), (T, T)),
            ((("a", F), ("b", F), ("c", F)), (T, F)), ((("a", F), ("b", T), ("c", F), ("x", T)), (T, F)),
            ((("a", F), ("b", T), ("c", T)), (F, F)), ((("a", T), ("b", F), ("x", F), ("y", T)), (T, T)),
        ]:
            saying = (("x", "y"), owns, (clause,))
            self.assert_same((is_plain(saying), is_twos(saying)), wanted)
            saying = (("x", "y"), owns, tuple(sorted([clause, (("c", F), ("x", F))])))
            self.assert_same((is_plain(saying), is_twos(saying)), wanted)

    def test_without_clauses(self):
        for saying in (EMPTY, NO_CLAUSES, (("x",), (), ())):
            self.assert_same((is_plain(saying), is_twos(saying)), (T, T))
        self.assert_same((is_plain(BARRED), is_twos(BARRED)), (T, F))
        self.assert_same((is_plain(NO_OWNS), is_twos(NO_OWNS)), (T, F))

    def test_what_is_of_no_such_kind_is_refused(self):
        for saying in SAYINGS + some_sayings(324, 60):
            if not second.plain(saying):
                self.assert_refused(NotPlain, saying, lambda: least_true(saying))
            if not second.twos(saying):
                for function in (by_chains, chains):
                    self.assert_refused(NotTwos, saying, lambda: function(saying))


class Plain(Guarded):

    def test_e1_by_going_through_all_answers(self):
        met = [0, 0]
        for saying in [EMPTY, BARRED, NO_PICKS, NO_OWNS, NO_CLAUSES, OTHER, TOLD] + plains(325, 250):
            wanted = second.least(oracle.holding(saying))
            self.assert_same(least_true(saying), wanted)
            self.assertIs(wanted is not None, bool(oracle.holding(saying)))
            met[wanted is not None] += 1
        self.assertGreater(min(met), 40)

    def test_one_by_one(self):
        # What a has to be drives b, b drives c; d is left.
        owns = tuple((name, ()) for name in "abcd")
        clauses = ((("a", F), ("b", T)), (("a", T),), (("b", F), ("c", T)))
        self.assert_same(least_true(((), owns, clauses)), ((T,), (T,), (T,), (F,)))
        clauses = ((("a", F), ("b", F), ("c", T)), (("a", T),), (("c", F), ("d", T)))
        self.assert_same(least_true(((), owns, clauses)), ((T,), (F,), (F,), (F,)))
        clauses = ((("a", F), ("b", T)), (("a", T),), (("b", F), ("c", T)), (("c", F),))
        self.assertIsNone(least_true(((), owns, clauses)))
        # The later clause lets the earlier one tell.
        clauses = ((("a", F), ("d", F)), (("b", F), ("d", T)), (("b", T),), (("a", T), ("d", F)))
        self.assertIsNone(least_true(((), owns, tuple(sorted(clauses)))))

    def test_answers_hang_on_what_is_seen(self):
        saying = (("x", "y"), (("a", ("x",)), ("b", ("x", "y"))),
                  ((("a", F), ("b", T), ("y", T)), (("a", T), ("x", F))))
        self.assert_same(least_true(saying), ((F, T), (F, T, F, F)))
        self.assertIsNone(least_true(WITHOUT_ANSWERS))

    def test_the_edges(self):
        self.assert_same(least_true(EMPTY), ())
        self.assertIsNone(least_true(BARRED))
        self.assertIsNone(least_true(NO_OWNS))
        self.assert_same(least_true((("x",), (), ())), ())
        self.assert_same(least_true(NO_CLAUSES), ((F,), (F, F)))
        self.assert_same(least_true(TOLD), ((T,), (T, T)))


class Twos(Guarded):

    def test_e2_answers_or_chains(self):
        met = [0, 0]
        for saying in [EMPTY, NO_CLAUSES, NO_PICKS, OTHER, TOLD, ROUND, WITHOUT_ANSWERS] + some_twos(326, 400):
            some = oracle.can_be_met(oracle.demands(saying))
            found, paper = by_chains(saying), chains(saying)
            if some:
                self.assertIs(oracle.answers(saying, found), T)
                self.assertIsNone(oracle.broken_at(saying, found))
                self.assertIsNone(paper)
            else:
                self.assertIsNone(found)
                self.assertIs(second.chains_hold(saying, paper), T)
                self.assertIs(chains_hold(saying, paper), T)
            met[some] += 1
        self.assertGreater(min(met), 80)

    def test_the_edges(self):
        self.assert_same([by_chains(EMPTY), chains(EMPTY)], [(), None])
        self.assert_same(chains(OTHER), PAPER)
        alone = ((), (("a", ()),), ((("a", F),), (("a", T),)))
        self.assert_same([by_chains(alone), chains(alone)], [None, PAPER])
        self.assert_same(by_chains(((), (("a", ()),), ((("a", T),),))), ((T,),))
        self.assert_same(by_chains(((), (("a", ()),), ((("a", F),),))), ((F,),))

    def test_long_ways(self):
        # Eight owns, each the same as the one ahead, the first the contrary of the last.
        names = "abcdefgh"
        clauses = [((one, F), (other, T)) for one, other in zip(names, names[1:])]
        clauses += [((one, T), (other, F)) for one, other in zip(names, names[1:])]
        owns = tuple((name, ("x",)) for name in names)
        saying = (("x",), owns, tuple(sorted(clauses + [(("a", F), ("h", F), ("x", F)), (("a", T), ("h", T), ("x", F))])))
        paper = chains(saying)
        self.assertIs(second.chains_hold(saying, paper), T)
        self.assertIsNone(by_chains(saying))
        less = (("x",), owns, tuple(sorted(clauses + [(("a", F), ("h", F), ("x", F))])))
        self.assertIsNone(oracle.broken_at(less, by_chains(less)))
        self.assertIsNone(chains(less))


class ChainsHold(Guarded):

    def test_papers_of_any_saying(self):
        # No twos; a clause of three letters drives nothing, one of none neither.
        saying = ((), (("a", ()), ("b", ()), ("c", ())), (
            (), (("a", F),), (("a", T),), (("a", T), ("b", F), ("c", T)),
        ))
        self.assertIs(chains_hold(saying, PAPER), T)
        self.assertIs(chains_hold(SMALL, PAPER), F)
        self.assertIs(chains_hold(EMPTY, PAPER), F)
        for paper in [((("b", (), T), ("a", (), F), ("b", (), F)), (("b", (), F), ("a", (), T), ("b", (), T))),
                      ((("b", (), T), ("b", (), F)), (("b", (), F), ("b", (), T)))]:
            self.assertIs(chains_hold(saying, paper), F)

    def test_driven_by_a_letter_alone(self):
        # b alone is driven by any letter; a by b, its contrary by b, too.
        saying = ((), (("a", ()), ("b", ())), ((("a", F), ("b", F)), (("a", T), ("b", F)), (("b", T),)))
        a, b = ("a", ()), ("b", ())
        right = ((a + (T,), b + (T,), a + (F,)), (a + (F,), b + (T,), a + (T,)))
        self.assertIs(chains_hold(saying, right), T)
        # The way may go on, and back, and round.
        self.assertIs(chains_hold(saying, (right[0][:2] + right[0][1:2] + right[0][1:], right[1])), T)
        self.assertIs(chains_hold(saying, (right[0] + right[0][1:], right[1])), T)
        self.assertIs(chains_hold(saying, ((b + (T,), a + (T,), b + (F,)), (b + (F,), b + (T,)))), T)
        for one in [(a + (T,), a + (F,)), (a + (T,), b + (F,), a + (F,)), (a + (T,), b + (T,)), (a + (T,),), ()]:
            self.assertIs(chains_hold(saying, (one, right[1])), F)
            self.assertIs(chains_hold(saying, (right[0], one)), F)
        self.assertIs(chains_hold(saying, right[::-1]), F)
        self.assertIs(chains_hold(saying, (right[0], right[0])), F)
        self.assertIs(chains_hold(saying, ((b + (T,), a + (T,), b + (F,)), right[1])), F)

    def test_the_first_and_the_last_letter(self):
        """Driven throughout, but from a copy to itself, or to another copy, or another copy's way back."""
        saying = ((), (("a", ()), ("b", ())), ((("a", F),), (("a", T),), (("b", F),), (("b", T),)))
        a, b = ("a", ()), ("b", ())
        letters = [a + (T,), a + (F,), b + (T,), b + (F,)]
        every = [way for many in (2, 3) for way in itertools.product(letters, repeat=many)]
        right = 0
        for one, other in itertools.product(every, repeat=2):
            wanted = one[0][:2] == one[-1][:2] == other[0][:2] == other[-1][:2]
            wanted = wanted and (one[0][2], one[-1][2], other[0][2], other[-1][2]) == (T, F, F, T)
            self.assertIs(chains_hold(saying, (one, other)), wanted)
            right += wanted
        self.assertEqual(right, 50)

    def test_copies_are_told_apart_by_what_they_see(self):
        saying = (("x",), (("a", ("x",)),), ((("a", F), ("x", T)), (("a", T), ("x", F))))
        one, other = ("a", (F,)), ("a", (T,))
        self.assertIs(chains_hold(saying, ((one + (T,), one + (F,)), (one + (F,), one + (T,)))), F)
        self.assertIs(chains_hold(saying, ((one + (T,), one + (F,)), (one + (F,), other + (T,)))), F)
        self.assertIs(chains_hold(saying, ((one + (T,), one + (F,)), (other + (F,), other + (T,)))), F)

    def test_any_object(self):
        long_one = chains(ROUND)
        for value in strangers() + list(mutants(PAPER)):
            self.assertIs(chains_hold(OTHER, value), second.chains_hold(OTHER, value))
            self.assertIs(chains_hold(EMPTY, value), F)
        for value in mutants(long_one):
            self.assertIs(chains_hold(ROUND, value), second.chains_hold(ROUND, value))
        for value in [list(PAPER), PAPER + ((),), (list(PAPER[0]), PAPER[1]), ([["a", (), T], ["a", (), F]], PAPER[1]),
                      ((("a", [], T), ("a", (), F)), PAPER[1]), ((("a", (), 1), ("a", (), 0)), PAPER[1]),
                      ((("a", (), T, T), ("a", (), F)), PAPER[1]), ((("b", (), T), ("b", (), F)), PAPER[1]),
                      ((("x", (), T), ("a", (), F)), PAPER[1]), ((({}, (), T), ("a", (), F)), PAPER[1])]:
            self.assertIs(chains_hold(OTHER, value), F)
        saying = (("x",), (("a", ("x",)),), ((("a", F),), (("a", T),)))
        right = ((("a", (T,), T), ("a", (T,), F)), (("a", (T,), F), ("a", (T,), T)))
        self.assertIs(chains_hold(saying, right), T)
        for value in mutants(right):
            self.assertIs(chains_hold(saying, value), second.chains_hold(saying, value))
        self.assertIs(chains_hold(saying, ((("a", (1,), T), ("a", (T,), F)), right[1])), F)

    def test_drawn_chains(self):
        rng = random.Random(327)
        met = [0, 0]
        for saying in some_twos(328, 60, 6, 14) + tight_sayings(329, 30, 5, 14) + [THREE]:
            letters = [copy + (truth,) for copy in oracle.copies(saying) for truth in (F, T)]
            for _ in range(60 if letters else 0):
                name, what, _ = rng.choice(letters)
                value = tuple((((name, what, start),) + tuple(rng.choices(letters, k=rng.choice((0, 0, 1, 1, 2))))
                               + ((name, what, not start),)) for start in (T, F))
                wanted = second.chains_hold(saying, value)
                self.assertIs(chains_hold(saying, value), wanted)
                met[wanted] += 1
                if wanted:
                    self.assertIs(has_answers(saying), F)
        self.assertGreater(min(met), 20)
