"""Points 32, 34 and 35 at the greatest sayings: 120 copies and 40 clauses."""

import random

from onlyseen.easy import by_chains, chains, chains_hold, is_plain, is_twos, least_true, sums_answers, sums_paper
from onlyseen.settling import settle
from onlyseen.shorter import answers_back, cuts, refutation_back, shorter
from tests import checker, oracle, second
from tests.guard import Timed
from tests.kinds import clause_of, planted_sums
from tests.samples import PICKS, clauses_over, great_sayings, owns_of_120

F, T = False, True


def great(seed, many, kinds):
    """Sayings with 40 clauses, or nearly as many, and about 120 copies, each clause of a kind that is drawn.

    A kind is how many letters of owns a clause has, how many of these are True, and how many letters of picks.
    """
    rng = random.Random(seed)
    found = []
    for _ in range(many):
        owns = owns_of_120(rng)
        mine = rng.sample(kinds, 2)
        clauses = set()
        for _ in range(60):
            of_owns, trues, of_picks = rng.choice(mine)
            clauses.add(clause_of(rng, PICKS, owns, trues, min(of_owns, len(owns)), of_picks))
        found.append((PICKS, owns, tuple(sorted(rng.sample(sorted(clauses), min(40, len(clauses)))))))
    return found


class GreatestKinds(Timed):

    def test_plain_ones(self):
        met = [0, 0]
        kinds = [(1, 1, 5), (1, 1, 6), (2, 1, 1), (3, 1, 1), (2, 0, 3), (4, 1, 0), (3, 0, 3), (2, 0, 6), (5, 0, 2)]
        for saying in great(390, 120, kinds):
            self.assertIs(self.timed(is_plain, saying), T)
            found = self.timed(least_true, saying)
            wanted = oracle.first_row(saying)
            self.assertIs(found is None, wanted is None)
            met[wanted is not None] += 1
            if found is not None:
                self.assertIsNone(oracle.broken_at(saying, found))
                self.check_least(saying, found)
        self.assertGreater(min(met), 20)

    def check_least(self, saying, found):
        """Each of its True is driven: with the others as they are, and it False, some demand is not met."""
        row = [truth for table in found for truth in table]
        those = oracle.demands(saying)
        falses = sum(1 << 2 * place for place, truth in enumerate(row) if not truth)
        for place, truth in enumerate(row):
            if truth:
                self.assertIs(oracle.can_be_met(those, falses | 1 << 2 * place), F)

    def test_twos(self):
        met = [0, 0]
        for saying in great(391, 120, [(1, 0, 5), (1, 1, 5), (2, 1, 1), (2, 1, 2), (2, 0, 1), (2, 2, 2), (2, 1, 0), (2, 2, 3)]):
            self.assertIs(self.timed(is_twos, saying), T)
            found, paper = self.timed(by_chains, saying), self.timed(chains, saying)
            self.assertIs(found is None, paper is not None)
            if found is None:
                self.assertIs(second.chains_hold(saying, paper), T)
                self.assertIs(self.timed(chains_hold, saying, paper), T)
            else:
                self.assertIsNone(oracle.broken_at(saying, found))
            met[found is None] += 1
        self.assertGreater(min(met), 20)

    def test_rows_of_forty_sums(self):
        for row in planted_sums(392, 20, 40):
            self.assertIs(self.timed(sums_answers, row) is None, self.timed(sums_paper, row) is not None)

    def test_cuts(self):
        rng = random.Random(393)
        sayings = great_sayings(394, 12) + great(395, 12, [(1, 0, 6), (1, 1, 5), (2, 1, 4), (2, 0, 3), (3, 1, 2)])
        owns = tuple((name, PICKS[:4]) for name in "abcdefg") + (("h", PICKS[3:]),)
        sayings += [(PICKS, owns, clauses_over(rng, PICKS, owns, 40, 6, 2)) for _ in range(4)]
        met = {}
        for saying in sayings:
            self.assert_same(self.timed(cuts, saying), second.cuts(saying))
            left, done = self.timed(shorter, saying)
            self.assert_same((left, done), second.shorter(saying))
            kind, told = settle(left)
            met[kind] = met.get(kind, 0) + bool(done)
            if kind == "answers":
                self.assertIsNone(oracle.broken_at(saying, self.timed(answers_back, saying, done, told)))
            else:
                found = self.timed(refutation_back, saying, done, told)
                self.assertEqual(len(found), len(told))
                self.assertIs(checker.refutes(saying, found), T)
        self.assertGreater(min(met.values()), 3)
        self.assertEqual(len(met), 2)
