"""Points 6 and 12: tells, refutes, trimmed, used."""

import random

from onlyseen.errors import InvalidRefutation, InvalidStep
from onlyseen.refutations import refutes, tells, trimmed, used
from tests import checker, oracle
from tests.guard import Guarded
from tests.samples import (
    BARRED, EMPTY, NO_OWNS, SMALL, WITH_EMPTY_CLAUSE, WITHOUT_ANSWERS, mutants, some_sayings, strangers,
    tight_sayings,
)

F, T = False, True

STEPS = (("play", 0, (F, T)), ("play", 1, (T, T)), ("join", 1, 0, ("a", (T,))))
# a without sight is asked to be True and False, and beside it b, by what it sees.
OTHER = (("x",), (("a", ()), ("b", ("x",))), (
    (("a", F), ("b", F), ("x", T)), (("a", F), ("b", T)), (("a", T), ("x", F)),
))
OTHER_STEPS = (
    ("play", 0, (F,)), ("play", 1, (F,)), ("play", 1, (T,)), ("play", 2, (T,)),
    ("join", 1, 0, ("b", (F,))), ("join", 3, 4, ("a", ())),
)


def told(saying, steps):
    """What the oracle tells of steps, as tells does."""
    found, wrong = checker.told(saying, steps)
    return [tuple(sorted(one)) for one in found] if wrong is None else wrong


def all_plays(saying):
    """All steps of clauses at plays, those that are none too."""
    return [("play", k, at) for k in range(len(saying[2])) for at in oracle.plays(saying)]


def every_step(saying, ahead):
    """All steps that could stand behind so many, and many that could not."""
    return all_plays(saying) + [("join", i, j, copy) for copy in oracle.copies(saying)
                                for i in range(ahead) for j in range(ahead)]


def short_join(rng, ahead):
    """A join of two of these sets, one of the shorter ones; None if none was met."""
    found = []
    for _ in range(40):
        i, j = rng.randrange(len(ahead)), rng.randrange(len(ahead))
        for name, what, truth in sorted(ahead[i]):
            if truth and (name, what, False) in ahead[j]:
                found.append((len(ahead[i] | ahead[j]), ("join", i, j, (name, what))))
    return min(found)[1] if found else None


def random_steps(rng, saying, many):
    """So many steps at most, each of which is one where it stands."""
    every = {repr(copy) for copy in oracle.copies(saying)}
    steps, ahead = [], []
    for _ in range(4 * many):
        step = short_join(rng, ahead) if ahead and rng.random() < 0.6 else rng.choice(all_plays(saying))
        one = checker.told_by(saying, step, ahead, every)
        if one is not None and len(steps) < many and (step[0] == "play" or one not in ahead):
            steps.append(step)
            ahead.append(one)
    return tuple(steps)


class Telling(Guarded):

    def check_wrong(self, saying, steps, index):
        """Refused with this index, also with what is right and what is wrong behind it."""
        for behind in [(), (("play", 0, oracle.plays(saying)[0]),), (None,), (("join", 0, 0, ()), [])]:
            with self.assertRaises(InvalidStep) as caught:
                tells(saying, steps + behind)
            self.assert_same(caught.exception.value, index)
            self.assertIs(refutes(saying, steps + behind), F)
            for function in (trimmed, used):
                self.assert_refused(InvalidRefutation, steps + behind, lambda: function(saying, steps + behind))

    def test_the_steps_of_the_document(self):
        self.assert_same(tells(WITHOUT_ANSWERS, STEPS), [(("a", (T,), F),), (("a", (T,), T),), ()])
        self.assert_same(tells(WITHOUT_ANSWERS, STEPS[:2]), [(("a", (T,), F),), (("a", (T,), T),)])
        self.assertIs(refutes(WITHOUT_ANSWERS, STEPS), T)
        self.assertIs(refutes(WITHOUT_ANSWERS, STEPS[:2]), F)
        self.assert_same(used(WITHOUT_ANSWERS, STEPS), (0, 1))

    def test_several_joins(self):
        steps = OTHER_STEPS + (("play", 0, (F,)), ("join", 3, 6, ("a", ())))
        self.assert_same(tells(OTHER, steps), [
            (("a", (), F), ("b", (F,), F)), (("a", (), F), ("b", (F,), T)), (("a", (), F), ("b", (T,), T)),
            (("a", (), T),), (("a", (), F),), (), (("a", (), F), ("b", (F,), F)), (("b", (F,), F),),
        ])
        self.assertIs(refutes(OTHER, OTHER_STEPS), T)
        self.assertIs(refutes(OTHER, steps), F)
        self.assert_same(used(OTHER, OTHER_STEPS), (0, 1, 2))
        self.assert_same(trimmed(OTHER, OTHER_STEPS), (
            ("play", 0, (F,)), ("play", 1, (F,)), ("play", 2, (T,)),
            ("join", 1, 0, ("b", (F,))), ("join", 2, 3, ("a", ())),
        ))

    def test_no_steps(self):
        for saying in (EMPTY, BARRED, SMALL, WITHOUT_ANSWERS):
            self.assert_same(tells(saying, ()), [])
            self.assertIs(refutes(saying, ()), F)
            for function in (trimmed, used):
                self.assert_refused(InvalidRefutation, (), lambda: function(saying, ()))

    def test_the_empty_clause_and_clauses_of_picks_alone(self):
        self.assert_same(tells(BARRED, (("play", 0, ()),)), [()])
        self.assertIs(refutes(BARRED, (("play", 0, ()),)), T)
        self.assert_same(used(BARRED, (("play", 0, ()),)), (0,))
        self.assertIs(refutes(WITH_EMPTY_CLAUSE, (("play", 1, (T,)), ("play", 0, (F,)))), T)
        self.assert_same(trimmed(WITH_EMPTY_CLAUSE, (("play", 1, (T,)), ("play", 0, (F,)))), (("play", 0, (F,)),))
        self.assert_same(used(WITH_EMPTY_CLAUSE, (("play", 1, (T,)), ("play", 0, (F,)))), (0,))
        self.assert_same(tells(NO_OWNS, (("play", 0, (T, F)),)), [()])
        self.assertIs(refutes(NO_OWNS, (("play", 1, (F, F)),)), T)
        for play in ((T, T), (F, T), (F, F)):
            self.check_wrong(NO_OWNS, (("play", 0, play),), 0)

    def test_an_empty_one_ahead_of_the_last(self):
        steps = STEPS + (("play", 1, (T, T)),)
        self.assert_same(tells(WITHOUT_ANSWERS, steps)[2:], [(), (("a", (T,), T),)])
        self.assertIs(refutes(WITHOUT_ANSWERS, steps), F)
        twice = STEPS + (("play", 0, (F, F)), ("play", 1, (T, F)), ("join", 4, 3, ("a", (F,))))
        self.assertIs(refutes(WITHOUT_ANSWERS, twice), T)
        self.assert_same(trimmed(WITHOUT_ANSWERS, twice), twice[3:5] + (("join", 1, 0, ("a", (F,))),))
        self.assert_same(used(WITHOUT_ANSWERS, twice), (0, 1))

    def test_steps_of_plays_that_are_none(self):
        for step in [("play", -1, (F, T)), ("play", 2, (F, T)), ("play", 10 ** 30, (F, T)), ("play", T, (F, T)),
                     ("play", F, (F, T)), ("play", "0", (F, T)), ("play", None, (F, T)), ("play", [0], (F, T)),
                     ("play", 0, (F,)), ("play", 0, (F, T, T)), ("play", 0, ()), ("play", 0, [F, T]),
                     ("play", 0, (0, 1)), ("play", 0, (F, 1)), ("play", 0, None), ("play", 0, {}), ("play", 0, "FT"),
                     ("play", 0, (T, T)), ("play", 1, (F, T)), ("play", 0), ("play", 0, (F, T), ()), ("Play", 0, (F, T)),
                     ("plays", 0, (F, T)), ("join", 0, (F, T)), (b"play", 0, (F, T)), (["play"], 0, (F, T)), ("play",),
                     ["play", 0, (F, T)], ("", 0, (F, T)), (0, 0, (F, T)), (("play",), 0, (F, T)), ()]:
            self.check_wrong(WITHOUT_ANSWERS, (step,), 0)
            self.check_wrong(WITHOUT_ANSWERS, STEPS + (step,), 3)

    def test_joins_that_are_none(self):
        right = ("a", (T,))
        for step in [("join", 0, 1, right), ("join", 1, 1, right), ("join", 0, 0, right), ("join", 1, 2, right),
                     ("join", 2, 0, right), ("join", 3, 0, right), ("join", 1, 3, right), ("join", 4, 0, right),
                     ("join", 1, 4, right), ("join", -2, 0, right), ("join", 1, -3, right), ("join", -1, -2, right),
                     ("join", T, F, right), ("join", 1, F, right), ("join", T, 0, right), ("join", "1", 0, right),
                     ("join", 1, None, right), ("join", [1], 0, right), ("join", 1, {}, right),
                     ("join", 10 ** 30, 0, right), ("join", 1, 10 ** 30, right),
                     ("join", 1, 0, ("a", (F,))), ("join", 1, 0, ("a", ())), ("join", 1, 0, ("a", (T, T))),
                     ("join", 1, 0, ("a", (1,))), ("join", 1, 0, ("a", [T])), ("join", 1, 0, ["a", (T,)]),
                     ("join", 1, 0, ("b", (T,))), ("join", 1, 0, ("x", (T,))), ("join", 1, 0, ("a", (T,), T)),
                     ("join", 1, 0, ("a",)), ("join", 1, 0, "a"), ("join", 1, 0, None), ("join", 1, 0, ("a", {T: T})),
                     ("join", 1, 0, ({}, (T,))), ("join", 1, 0, (["a"], (T,))), ("join", 1, 0, ("a", ([T],))),
                     ("join", 1, 0), ("join", 1, 0, right, ()), ["join", 1, 0, right], ("Join", 1, 0, right),
                     ("play", 1, 0, right), ("", 1, 0, right), (None, 1, 0, right), ("join",), (b"join", 1, 0, right)]:
            self.check_wrong(WITHOUT_ANSWERS, STEPS + (step,), 3)
        for step in [("join", 0, 0, right), ("join", 0, 1, right), ("join", 1, 2, right), ("join", -1, 0, right)]:
            self.check_wrong(WITHOUT_ANSWERS, (step,), 0)

    def test_joins_of_themselves_and_of_later_ones(self):
        for join in [("join", 2, 0, ("a", (T,))), ("join", 1, 2, ("a", (T,))), ("join", 3, 0, ("a", (T,)))]:
            self.check_wrong(WITHOUT_ANSWERS, STEPS[:2] + (join,), 2)
        self.check_wrong(WITHOUT_ANSWERS, STEPS[:1] + (STEPS[2], STEPS[1]), 1)
        self.check_wrong(WITHOUT_ANSWERS, (STEPS[2],) + STEPS[:2], 0)

    def test_a_join_that_tells_a_copy_with_both_truths(self):
        saying = ((), (("a", ()), ("b", ()), ("c", ())), (
            (("a", F), ("b", F)), (("a", F), ("b", T), ("c", T)), (("a", T), ("b", T)), (("a", T), ("c", F)),
        ))
        plays = tuple(("play", k, ()) for k in range(4))
        for i, j in [(2, 0), (3, 1)]:
            self.check_wrong(saying, plays + (("join", i, j, ("a", ())),), 4)
        self.assert_same(tells(saying, plays + (("join", 3, 0, ("a", ())),))[4], (("b", (), F), ("c", (), F)))
        self.assert_same(tells(saying, plays + (("join", 2, 1, ("a", ())),))[4], (("b", (), T), ("c", (), T)))

    def test_copies_that_are_told_are_those_that_are_seen(self):
        saying = (("x", "y"), (("a", ("x",)),), ((("a", F), ("x", T)), (("a", T), ("x", F), ("y", T))))
        steps = (("play", 0, (F, F)), ("play", 1, (T, F)))
        self.assert_same(tells(saying, steps), [(("a", (F,), F),), (("a", (T,), T),)])
        self.check_wrong(saying, steps + (("join", 1, 0, ("a", (F,))),), 2)
        self.check_wrong(saying, steps + (("join", 1, 0, ("a", (T,))),), 2)

    def test_letters_are_told_as_they_compare(self):
        saying = (("x", "y"), (("a", ("x", "y")), ("b", ("x",))), ((("a", T), ("b", F), ("x", T)), (("b", T),)))
        steps = (("play", 0, (F, T)), ("play", 1, (F, F)), ("join", 1, 0, ("b", (F,))))
        self.assert_same(tells(saying, steps), [(("a", (F, T), T), ("b", (F,), F)), (("b", (F,), T),),
                                                (("a", (F, T), T),)])
        # One own by several copies: by place, the copy that sees x comes ahead of the one that sees y.
        saying = (("x", "y"), (("a", ("x", "y")), ("b", ())),
                  ((("a", T), ("b", F), ("x", T)), (("a", T), ("b", T), ("x", F), ("y", T))))
        steps = (("play", 0, (F, T)), ("play", 1, (T, F)), ("join", 1, 0, ("b", ())))
        self.assert_same(tells(saying, steps)[2], (("a", (F, T), T), ("a", (T, F), T)))


class Comparing(Guarded):

    def test_all_pairs_of_steps_of_small_sayings(self):
        for saying in some_sayings(12, 25, 5, 3):
            for first in all_plays(saying)[::2]:
                for second in every_step(saying, 1)[::3]:
                    self.compare(saying, (first, second))

    def test_random_rows_of_steps(self):
        rng = random.Random(6)
        refuted = 0
        for saying in tight_sayings(6, 70, 6, 40):
            steps = random_steps(rng, saying, 40)
            for end in range(len(steps) + 1):
                refuted += self.compare(saying, steps[:end])
            others = every_step(saying, len(steps))
            for _ in range(10):
                changed = list(steps)
                changed[rng.randrange(len(changed))] = rng.choice(others)
                self.compare(saying, tuple(changed))
        self.assertGreater(refuted, 25)

    def compare(self, saying, steps):
        wanted = told(saying, steps)
        if type(wanted) is int:
            with self.assertRaises(InvalidStep) as caught:
                tells(saying, steps)
            self.assert_same(caught.exception.value, wanted)
        else:
            self.assert_same(tells(saying, steps), wanted)
        right = checker.refutes(saying, steps)
        self.assertIs(refutes(saying, steps), right)
        if right:
            self.assert_same(trimmed(saying, steps), checker.trimmed(steps))
            self.assert_same(used(saying, steps), checker.used(steps))
            self.assertIs(refutes(saying, trimmed(saying, steps)), T)
        else:
            for function in (trimmed, used):
                self.assert_refused(InvalidRefutation, steps, lambda: function(saying, steps))
        return right

    def test_any_object(self):
        for value in strangers() + list(mutants(STEPS)) + list(mutants(OTHER_STEPS[:2])):
            for saying in (WITHOUT_ANSWERS, OTHER, BARRED, EMPTY):
                self.assertIs(refutes(saying, value), checker.refutes(saying, value))
        self.assertIs(refutes(WITHOUT_ANSWERS, list(STEPS)), F)

    def test_mutants_of_steps(self):
        for value in mutants(STEPS):
            if type(value) is tuple:
                self.compare(WITHOUT_ANSWERS, value)

    def test_a_refutation_of_one_saying_and_another_one(self):
        other = (("x", "y"), (("a", ("x",)),), WITHOUT_ANSWERS[2])
        self.assertIs(refutes(other, STEPS), F)
        self.assertIs(refutes(SMALL, STEPS), F)
        self.assertIs(refutes(WITHOUT_ANSWERS, OTHER_STEPS), F)
        self.assertIs(refutes(OTHER, STEPS), F)
