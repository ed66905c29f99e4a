"""Points 5 and 11: holds, broken_at, value_of, answers_with."""

import random

from onlyseen.answers import answers_with, broken_at, holds, value_of
from tests import oracle
from tests.guard import Guarded
from tests.samples import (
    BARRED, BETWEEN, EIGHT_OWNS, EMPTY, LARGEST_OWNS, NO_CLAUSES, NO_OWNS, NO_PICKS, PICKS, SAYINGS, SMALL, THREE,
    WITH_EMPTY_CLAUSE, WITHOUT_ANSWERS, largest_sayings, sayings_of_24, some_answers, some_sayings,
)

F, T = False, True


def only_at(owns, answers, play, agrees):
    """The clause of all names that can be broken at this play alone; it is broken there unless the owns agree."""
    letters = [(pick, not truth) for pick, truth in zip(PICKS, play)]
    for name, _ in owns:
        letters.append((name, oracle.value_of((PICKS, owns, ()), answers, name, play) is agrees))
    return tuple(sorted(letters))


class Holding(Guarded):

    def check(self, saying, answers):
        broken = oracle.broken_at(saying, answers)
        self.assert_same(broken_at(saying, answers), broken)
        self.assert_same(broken_at(answers=answers, saying=saying), broken)
        self.assertIs(holds(saying, answers), broken is None)
        self.assertIs(holds(answers=answers, saying=saying), broken is None)
        return broken is None

    def test_all_answers_of_small_sayings(self):
        held = 0
        for saying in SAYINGS + some_sayings(6, 120, 6):
            for answers in oracle.every_answers(saying):
                held += self.check(saying, answers)
        self.assertGreater(held, 200)

    def test_some_answers_of_larger_ones(self):
        rng = random.Random(7)
        for saying in some_sayings(8, 80, 30, 30) + sayings_of_24():
            for _ in range(4):
                self.check(saying, some_answers(rng, saying))

    def test_the_largest_ones(self):
        rng = random.Random(9)
        for saying in largest_sayings():
            for _ in range(5):
                self.check(saying, some_answers(rng, saying))

    def test_largest_ones_that_hold_or_are_broken_at_the_last_play_alone(self):
        for owns in (LARGEST_OWNS, EIGHT_OWNS):
            rng = random.Random(10)
            answers = some_answers(rng, (PICKS, owns, ()))
            ahead = oracle.plays((PICKS, owns, ()))[:-1]
            for _ in range(5):
                right = [only_at(owns, answers, play, True) for play in rng.sample(ahead, 39)]
                saying = (PICKS, owns, tuple(sorted(right)))
                self.assertIsNone(broken_at(saying, answers))
                self.assertIs(holds(saying, answers), True)
                wrong = only_at(owns, answers, (T,) * 6, False)
                clauses = tuple(sorted(right + [wrong]))
                saying = (PICKS, owns, clauses)
                self.assert_same(broken_at(saying, answers), (clauses.index(wrong), (T,) * 6))
                self.assertIs(holds(saying, answers), False)

    def test_the_first_play_goes_ahead_of_the_first_clause(self):
        saying = (("x",), (("a", ()),), ((("a", T), ("x", F)), (("a", T), ("x", T))))
        self.assert_same(broken_at(saying, ((F,),)), (1, (F,)))
        self.assert_same(broken_at(saying, ((T,),)), None)

    def test_the_first_clause_at_that_play(self):
        saying = (("x",), (("a", ()),), ((("a", F),), (("a", F), ("x", F)), (("a", F), ("x", T))))
        self.assert_same(broken_at(saying, ((T,),)), (0, (F,)))
        self.assert_same(broken_at((saying[0], saying[1], saying[2][1:]), ((T,),)), (1, (F,)))

    def test_no_picks_no_owns_no_clauses(self):
        self.assertIs(holds(EMPTY, ()), True)
        self.assertIs(holds(NO_CLAUSES, ((F,), (F, F))), True)
        self.assertIs(holds(NO_OWNS, ()), False)
        self.assert_same(broken_at(NO_OWNS, ()), (1, (F, F)))
        self.assertIs(holds(NO_PICKS, ((T,), (T,))), True)
        self.assert_same(broken_at(NO_PICKS, ((T,), (F,))), (0, ()))
        self.assert_same(broken_at(NO_PICKS, ((F,), (T,))), (1, ()))

    def test_the_empty_clause_is_broken_at_the_first_play(self):
        self.assert_same(broken_at(BARRED, ()), (0, ()))
        self.assertIs(holds(BARRED, ()), False)
        self.assert_same(broken_at(WITH_EMPTY_CLAUSE, ((T, T),)), (0, (F,)))

    def test_a_saying_without_answers_holds_by_none(self):
        for answers in oracle.every_answers(WITHOUT_ANSWERS):
            self.assertIs(holds(WITHOUT_ANSWERS, answers), False)


class ValueOf(Guarded):

    def test_the_table_at_what_is_seen(self):
        answers = ((T, F, F, F), (T,), (F, F, T, F))
        self.assertIs(value_of(THREE, answers, "ab", (F, F, T)), T)
        self.assertIs(value_of(THREE, answers, "ab", (T, F, T)), F)
        self.assertIs(value_of(THREE, answers, "zzzzzzzz", (F, F, T)), T)
        self.assertIs(value_of(THREE, answers, "zzzzzzzz", (T, T, F)), F)
        self.assertIs(value_of(THREE, answers, "c", (T, T, F)), T)
        self.assertIs(value_of(play=(F, T), name="b", answers=((F, F), (F, T)), saying=SMALL), T)

    def test_all_owns_at_all_plays(self):
        rng = random.Random(11)
        for saying in SAYINGS + some_sayings(12, 60, 20) + largest_sayings():
            answers = some_answers(rng, saying)
            for play in oracle.plays(saying):
                for name, _ in saying[1]:
                    wanted = oracle.value_of(saying, answers, name, play)
                    self.assertIs(value_of(saying, answers, name, play), wanted)


class AnswersWith(Guarded):

    def test_the_truths_by_copies(self):
        self.assert_same(answers_with(SMALL, [F, T, T, T]), ((F, T), (T, T)))
        self.assert_same(answers_with(THREE, [T, F, F, F, T, F, F, F, T]), ((T, F, F, F), (T,), (F, F, F, T)))
        self.assert_same(answers_with(rows=[T, F, T], saying=BETWEEN), ((T, F), (T,)))

    def test_no_owns(self):
        self.assert_same(answers_with(EMPTY, []), ())
        self.assert_same(answers_with(NO_OWNS, []), ())

    def test_each_truth_is_at_its_copy(self):
        rng = random.Random(13)
        for saying in SAYINGS + some_sayings(14, 60, 20) + largest_sayings():
            rows = [rng.random() < 0.5 for _ in oracle.copies(saying)]
            kept = list(rows)
            answers = answers_with(saying, rows)
            self.assert_same(answers, oracle.answers_with(saying, rows))
            self.assert_same(rows, kept)
            for play in oracle.plays(saying):
                for name, _ in saying[1]:
                    at = oracle.copies(saying).index((name, oracle.seen(saying, name, play)))
                    self.assertIs(value_of(saying, answers, name, play), rows[at])

    def test_the_list_is_not_kept(self):
        rows = [F, T, T, T]
        answers = answers_with(SMALL, rows)
        rows[0] = T
        rows.clear()
        self.assert_same(answers, ((F, T), (T, T)))
        self.assert_same(answers_with(SMALL, [F, T, T, T]), ((F, T), (T, T)))
