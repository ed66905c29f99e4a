"""Points 6 and 12 beside the greatest sayings: rows of some thousand steps."""

import random

from onlyseen.errors import InvalidStep
from onlyseen.refutations import refutes, tells, trimmed, used
from onlyseen.settling import settle
from tests import checker, oracle
from tests.guard import Timed
from tests.samples import great_sayings, largest_sayings, parity_sayings

F, T = False, True
JOINS = 3000


def long_row(rng, saying):
    """Steps of clauses at plays, and 3,000 joins behind and between them, each a step where it stands."""
    every = {repr(copy) for copy in oracle.copies(saying)}
    steps, ahead, joins = [], [], 0
    by_letter = {}

    def put(step):
        one = checker.told_by(saying, step, ahead, every)
        if one is not None:
            for letter in one:
                by_letter.setdefault(letter, []).append(len(steps))
            steps.append(step)
            ahead.append(one)
        return one is not None

    plays = [("play", k, at) for k in range(len(saying[2])) for at in oracle.plays(saying)]
    while joins < JOINS:
        if rng.random() < 0.1:
            put(rng.choice(plays))
        elif by_letter:
            name, what, _ = rng.choice(list(by_letter))
            those, others = by_letter.get((name, what, T)), by_letter.get((name, what, F))
            if those and others:
                joins += put(("join", rng.choice(those), rng.choice(others), (name, what)))
    return tuple(steps), ahead


def moved(refutation, by):
    """The steps as they stand behind so many others."""
    return tuple(("join", step[1] + by, step[2] + by, step[3]) if step[0] == "join" else step for step in refutation)


class LongRows(Timed):

    def test_three_thousand_joins(self):
        rng = random.Random(3000)
        for saying in largest_sayings()[1:2] + largest_sayings()[3:] + great_sayings(31, 6) + parity_sayings()[2:5]:
            steps, ahead = long_row(rng, saying)
            self.assert_same(self.timed(tells, saying, steps), [tuple(sorted(one)) for one in ahead])
            self.assertIs(self.timed(refutes, saying, steps), not ahead[-1])
            wrong = steps[:2000] + (("join", 2000, 0, steps[-1][-1]),) + steps[2001:]
            self.assertIs(self.timed(refutes, saying, wrong), F)
            with self.assertRaises(InvalidStep) as caught:
                tells(saying, wrong)
            self.assert_same(caught.exception.value, 2000)

    def test_refutations_behind_three_thousand_joins(self):
        rng = random.Random(3001)
        refuted = 0
        for saying in great_sayings(32, 8) + parity_sayings()[:4]:
            kind, refutation = settle(saying)
            if kind == "refutation":
                steps, _ = long_row(rng, saying)
                row = steps + moved(refutation, len(steps))
                self.assertIs(checker.refutes(saying, row), T)
                self.assertIs(self.timed(refutes, saying, row), T)
                self.assert_same(self.timed(trimmed, saying, row), checker.trimmed(refutation))
                self.assert_same(self.timed(used, saying, row), checker.used(refutation))
                refuted += 1
        self.assertGreater(refuted, 5)

    def test_many_thousand_steps(self):
        saying = parity_sayings()[4]
        _, refutation = settle(saying)
        found, wrong = checker.told(saying, refutation)
        self.assertIsNone(wrong)
        self.assert_same(self.timed(tells, saying, refutation), [tuple(sorted(one)) for one in found])
        self.assertIs(self.timed(refutes, saying, refutation), T)
        self.assert_same(self.timed(used, saying, refutation), tuple(range(40)))
        self.assert_same(len(self.timed(trimmed, saying, refutation)), len(checker.behind(refutation)))
