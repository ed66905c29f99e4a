"""Points 13, 14 and 31 at the greatest sayings that the document lets be: each call comes to its answer."""

import random

from onlyseen.cores import core, is_core, largest_kept, least_core, needed_clauses
from onlyseen.errors import Holds, NoAnswers
from onlyseen.settling import against, first_answers, follows, has_answers, settle
from onlyseen.sights import could_see, hangs, idle, idle_holds, idle_paper, least_sights, reached, thinned
from tests import checker, oracle
from tests.guard import Timed
from tests.samples import (
    PICKS, clauses_over, great_sayings, largest_sayings, owns_of_120, parity_sayings, random_clause,
)

F, T = False, True
MOST_STEPS = 20000


def flat(answers):
    return [truth for table in answers for truth in table]


def chosen(saying, indexes):
    """The saying with these clauses alone."""
    return saying[:2] + (tuple(saying[2][index] for index in indexes),)


class Settled(Timed):

    def has_some(self, saying):
        """Whether a saying has answers: what settle tells is looked at by the oracle, so that it may be believed."""
        kind, told = settle(saying)
        if kind == "answers":
            self.assertIsNone(oracle.broken_at(saying, told))
        else:
            self.assertIs(checker.refutes(saying, told), T)
        return kind == "answers"


class Greatest(Settled):

    def check(self, saying, telling):
        """settle, has_answers, first_answers of a saying; whether it has answers."""
        kind, told = self.timed(settle, saying)
        found = self.timed(first_answers, saying)
        self.assertIs(self.timed(has_answers, saying), kind == "answers")
        if kind == "answers":
            self.assertIs(oracle.answers(saying, told) and oracle.answers(saying, found), T)
            self.assertIsNone(oracle.broken_at(saying, told))
            self.assertIsNone(oracle.broken_at(saying, found))
            self.assertLessEqual(flat(found), flat(told))
        else:
            self.assertEqual(kind, "refutation")
            self.assertLess(len(told), MOST_STEPS)
            self.assertIs(checker.refutes(saying, told), T)
            # No longer than it has to be: no step of no use, and none that tells what an earlier one tells.
            self.assertEqual(len(checker.behind(told)), len(told))
            self.assertEqual(len(set(checker.told(saying, told)[0])), len(told))
            self.assertIsNone(found)
        if telling:
            self.assert_same(found, oracle.first_row(saying))
        return kind == "answers"

    def check_following(self, saying, clause):
        told = self.timed(against, saying, clause)
        self.assertIs(self.timed(follows, saying, clause), told is None)
        if told is not None:
            answers, play = told
            self.assertIsNone(oracle.broken_at(saying, answers))
            self.assertFalse(any(oracle.is_so(saying, answers, one, play) for one in clause))
        return told is None

    def test_many_clauses_of_two_and_three_letters(self):
        counts = [0, 0]
        for number, saying in enumerate(great_sayings(40, 120)):
            self.assertIs(oracle.saying(saying), T)
            counts[self.check(saying, number % 12 == 0 and number != 36)] += 1
        self.assertGreater(min(counts), 30)

    def test_the_largest(self):
        for saying in largest_sayings() + parity_sayings():
            self.check(saying, F)

    def test_following(self):
        rng = random.Random(41)
        counts = [0, 0]
        for saying in great_sayings(42, 60):
            if has_answers(saying):
                for clause in [random_clause(rng, saying[0], saying[1], 3) for _ in range(5)]:
                    counts[self.check_following(saying, clause)] += 1
                for clause in saying[2][:3]:
                    self.assertIs(self.check_following(saying, clause), T)
                    longer = dict(clause)
                    longer.update({pick: T for pick in PICKS if pick not in longer})
                    self.assertIs(self.check_following(saying, tuple(sorted(longer.items()))), T)
                    counts[self.check_following(saying, clause[1:])] += 1
            else:
                self.assert_refused(NoAnswers, saying, lambda: follows(saying, ()))
        self.assertGreater(min(counts), 15)

    def test_following_from_what_is_odd_and_even(self):
        saying = parity_sayings()[4]
        for index in (0, 17, 39):
            others = chosen(saying, [other for other in range(40) if other != index])
            self.assertIs(self.check_following(others, saying[2][index]), F)
            self.assertIs(self.check_following(others, saying[2][index - 1]), T)


class GreatestCores(Settled):

    def check_core(self, saying):
        """A core, by an independent look: whether there was one."""
        try:
            found = self.timed(core, saying)
        except Holds:
            self.assertIs(self.has_some(saying), T)
            return F
        self.assertIs(self.has_some(chosen(saying, found)), F)
        self.assertIs(self.timed(is_core, saying, found), T)
        for index in found:
            less = tuple(other for other in found if other != index)
            self.assertIs(self.timed(is_core, saying, less), F)
            self.assertIs(self.has_some(chosen(saying, less)), T)
        return T

    def test_twenty_four_clauses_and_sixty_copies(self):
        rng = random.Random(43)
        counts = [0, 0]
        for lengths in [(4, 4, 3, 3, 3, 2), (5, 4, 3, 2), (3, 3, 3, 3, 3, 3, 2, 3), (4, 3, 3, 3, 3, 2, 2, 2)] * 6:
            owns = tuple((name, tuple(sorted(rng.sample(PICKS, length)))) for name, length in zip("abcdefgh", lengths))
            clauses = set()
            kinds = rng.choice([[(0, 2), (0, 3), (1, 2)], [(1, 3), (2, 2), (2, 3)], [(0, 3), (1, 3)], [(1, 2), (2, 2)]])
            while len(clauses) < 24:
                kind = rng.choice(kinds)
                clauses.update(clauses_over(rng, PICKS, owns, 1, *kind))
            counts[self.check_core((PICKS, owns, tuple(sorted(clauses))))] += 1
        self.assertGreater(min(counts), 2)

    def test_the_greatest(self):
        for saying in great_sayings(44, 20) + parity_sayings()[:4]:
            self.check_core(saying)

    def test_twelve_clauses_whatever_the_copies(self):
        rng = random.Random(45)
        barred = 0
        for _ in range(24):
            owns = owns_of_120(rng)
            clauses = set()
            while len(clauses) < 12:
                kind = rng.choice([(0, 2), (1, 1), (1, 1), (1, 2), (2, 1)])
                clauses.update(clauses_over(rng, PICKS, owns[:rng.choice((2, 3))], 1, *kind))
            saying = (PICKS, owns, tuple(sorted(clauses)))
            kept = self.timed(largest_kept, saying)
            needed = self.timed(needed_clauses, saying)
            if kept == [tuple(range(12))]:
                self.assert_same(needed, tuple(range(12)))
                self.assert_refused(Holds, saying, lambda: least_core(saying))
            else:
                barred += 1
                least = self.timed(least_core, saying)
                self.assertIs(self.has_some(chosen(saying, least)), F)
                self.assertLessEqual(set(needed), set(least))
                self.assertFalse(any(set(least) <= set(one) for one in kept))
                for one in kept:
                    self.assertIs(self.has_some(chosen(saying, one)), T)
                    for index in set(range(12)) - set(one):
                        more = chosen(saying, sorted(one + (index,)))
                        self.assertIs(self.has_some(more), F)
        self.assertGreater(barred, 12)


class GreatestSights(Settled):

    def test_sights_of_the_greatest_sayings(self):
        for saying in great_sayings(46, 12) + largest_sayings() + parity_sayings():
            told = self.timed(idle, saying)
            less = self.timed(thinned, saying)
            self.timed(could_see, saying)
            self.assert_same(idle(less), [])
            self.assertIs(has_answers(less), has_answers(saying))
            for name, sight in saying[1]:
                for pick in sight[:2]:
                    self.timed(reached, saying, pick, T)
                    self.assertIs(self.timed(hangs, saying, name, pick), (name, pick) not in told)
                    paper = self.timed(idle_paper, saying, name, pick)
                    self.assertIs(self.timed(idle_holds, saying, name, pick, paper), (name, pick) in told)

    def test_least_sights_with_forty_clauses(self):
        rng = random.Random(47)
        lengths = [(6, 2), (4, 4), (5, 2, 1), (3, 2, 2, 1, 0), (1,) * 8, (2, 2, 1, 1, 1, 1, 0, 0), (3, 3, 2, 0, 0, 0)]
        counts = [0, 0]
        for number in range(70):
            owns = tuple((name, tuple(sorted(rng.sample(PICKS, length))))
                         for name, length in zip("abcdefgh", lengths[number % len(lengths)]))
            planted = {copy: rng.random() < 0.5 for copy in oracle.copies((PICKS, owns, ()))}
            clauses = set()
            while len(clauses) < 40:
                clause = random_clause(rng, PICKS, owns, 5)
                told = [oracle.letters_at((PICKS, owns, ()), clause, at) for at in oracle.plays((PICKS, owns, ()))]
                # Mostly clauses that are so by some answers.
                if all(marked is None or any(planted[one[:2]] is one[2] for one in marked) for marked in told):
                    clauses.add(clause)
            saying = (PICKS, owns, tuple(sorted(clauses)))
            sights = self.timed(least_sights, saying)
            lesser = (PICKS, tuple((own[0], sight) for own, sight in zip(owns, sights)), saying[2])
            self.assertIs(self.has_some(lesser), T)
            counts[sum(len(sight) for sight in sights) > 2] += 1
        self.assertGreater(min(counts), 10)
