"""Point 34: marked sayings and middles; fact C1."""

import itertools
import random

from onlyseen.errors import Holds, InvalidAnswers, InvalidMarked, InvalidNumber
from onlyseen.middles import is_middle, is_so, middle
from onlyseen.settling import has_answers
from tests import oracle, second
from tests.guard import Guarded
from tests.kinds import some_marked, twos_saying
from tests.samples import (
    BARRED, EMPTY, NO_CLAUSES, NO_OWNS, NO_PICKS, SAYINGS, SMALL, THREE, WITH_EMPTY_CLAUSE, WITHOUT_ANSWERS,
    crowded_sayings, mutants, odd_or_even, parity_sayings, some_answers, some_sayings, strangers, tight_sayings,
)

F, T = False, True

# Of the document, point 34.
TOLD = (("x",), (("a", ()),), ((("a", F), ("x", T)), (("a", T), ("x", F))))
NOT_A = ("letter", "a", (), F)

# c stands in one half alone, d in the other one, a and b in both.
LINKED = ((), tuple((name, ()) for name in "abcd"), (
    (("a", F), ("d", F)), (("a", T), ("c", T)), (("b", F), ("c", T)), (("b", T), ("d", T)), (("c", F),), (("d", F),),
))


def without_answers(seed, many):
    """Sayings of at most 14 copies without answers."""
    found = tight_sayings(seed, many, 13, 26) + crowded_sayings(seed + 1, many)
    rng = random.Random(seed + 2)
    found += [twos_saying(rng, 14, 20) for _ in range(many)]
    return [saying for saying in found if not has_answers(saying)]


def some_firsts(rng, saying, many):
    """Indexes of clauses: none, all, and some drawn."""
    every = tuple(range(len(saying[2])))
    drawn = [tuple(sorted(rng.sample(every, rng.randint(0, len(every))))) for _ in range(many)]
    return [(), every] + drawn


def all_firsts(saying):
    every = range(len(saying[2]))
    return [chosen for many in range(len(every) + 1) for chosen in itertools.combinations(every, many)]


def marked_of(depth):
    """All marked sayings of two copies of no sight, not deeper than this."""
    found = [("true",), ("false",)] + [("letter", name, (), truth) for name in "ab" for truth in (F, T)]
    for _ in range(depth):
        found += [(kind, one, other) for kind in ("both", "either") for one in found[:6] for other in found[:6]]
    return found


class Middles(Guarded):

    def check(self, saying, first):
        """A middle of a saying of at most 16 copies without answers."""
        told = middle(saying, first)
        self.assertIs(second.middle(saying, first, told), T)
        self.assertIs(is_middle(saying, first, told), T)
        self.assertLessEqual(second.size(told), 2000)
        self.assertLessEqual(second.depth(told), 60)
        return told

    def test_c1_there_is_one_for_all_halves(self):
        rng = random.Random(350)
        met = {}
        for saying in SAYINGS + without_answers(351, 40) + parity_sayings()[:1] + [TOLD, LINKED]:
            if not has_answers(saying):
                for first in some_firsts(rng, saying, 6):
                    if len(second.shared(saying, first)) <= 5:
                        letters = len(second.letters(self.check(saying, first)))
                        met[letters] = met.get(letters, 0) + 1
        self.assertTrue({0, 1, 2, 3, 4} <= set(met), met)
        self.assertGreater(sum(met.values()), 250)

    def test_all_halves_of_small_sayings(self):
        for saying in (TOLD, LINKED, BARRED, NO_OWNS, WITHOUT_ANSWERS, WITH_EMPTY_CLAUSE):
            for first in all_firsts(saying):
                self.check(saying, first)

    def test_halves_of_none_and_of_all_clauses(self):
        for saying in (TOLD, LINKED, BARRED, NO_OWNS, WITHOUT_ANSWERS, WITH_EMPTY_CLAUSE):
            every = tuple(range(len(saying[2])))
            self.assert_same(second.letters(middle(saying, ())), set())
            self.assert_same([is_middle(saying, (), ("true",)), is_middle(saying, (), ("false",))], [T, F])
            self.assert_same([is_middle(saying, every, ("true",)), is_middle(saying, every, ("false",))], [F, T])

    def test_letters_that_only_one_half_tells(self):
        first = (1, 2, 4)
        self.assert_same(second.shared(LINKED, first), {("a", ()), ("b", ())})
        self.check(LINKED, first)
        right = ("both", ("letter", "a", (), T), ("letter", "b", (), F))
        self.assertIs(is_middle(LINKED, first, right), T)
        for name in "cd":
            for truth in (F, T):
                either = ("either", ("letter", name, (), F), ("letter", name, (), T))
                self.assertIs(is_middle(LINKED, first, ("both", right, either)), F)
        self.assertIs(is_middle(LINKED, first, ("both", right, ("either", NOT_A, ("letter", "a", (), T)))), T)
        self.assertIs(is_middle(LINKED, first, ("both", right, ("letter", "c", (), F))), F)
        # A clause with letters of b tells none at the play where its letter of x is so.
        saying = (("x",), (("a", ()), ("b", ("x",))), ((("a", F),), (("a", T), ("b", T), ("x", T)), (("b", F),)))
        self.assertEqual(second.shared(saying, (2,)), {("b", (F,))})
        self.assertIs(is_middle(saying, (2,), ("letter", "b", (F,), F)), T)
        both = ("both", ("letter", "b", (F,), F), ("letter", "b", (T,), F))
        self.assertIs(is_middle(saying, (2,), both), F)

    def test_is_middle_by_going_through_all_answers(self):
        rng = random.Random(352)
        met = [0, 0]
        few = [saying for saying in without_answers(353, 12) + tight_sayings(354, 30, 8, 8) if saying[2]]
        for saying in few:
            for first in some_firsts(rng, saying, 4):
                copies = sorted(second.shared(saying, first)) if len(second.shared(saying, first)) <= 5 else []
                more = copies if rng.random() < 0.9 else oracle.copies(saying)
                values = [some_marked(rng, more, rng.randint(0, 4)) for _ in range(12)]
                if not has_answers(saying):
                    told = middle(saying, first)
                    values += [told, ("both", told, values[0]), ("either", told, values[1]), ("either", told, told)]
                for value in values:
                    wanted = second.middle(saying, first, value)
                    self.assertIs(is_middle(saying, first, value), wanted)
                    met[wanted] += 1
        self.assertGreater(min(met), 200)

    def test_all_small_marked_sayings(self):
        saying = ((), (("a", ()), ("b", ())), (
            (("a", F),), (("a", F), ("b", T)), (("a", T),), (("a", T), ("b", F)), (("b", F),), (("b", T),),
        ))
        met = [0, 0]
        for first in all_firsts(saying)[::3]:
            for value in marked_of(1):
                wanted = second.middle(saying, first, value)
                self.assertIs(is_middle(saying, first, value), wanted)
                met[wanted] += 1
        self.assertGreater(min(met), 100)

    def test_of_a_saying_with_answers_none_is(self):
        for saying in (SMALL, NO_PICKS, NO_CLAUSES, EMPTY, THREE) + tuple(some_sayings(355, 20)):
            if has_answers(saying):
                for first in all_firsts(saying)[:6]:
                    for value in marked_of(0)[:2] + [("letter",) + copy + (T,) for copy in oracle.copies(saying)]:
                        self.assertIs(is_middle(saying, first, value), F)
                    self.assert_refused(Holds, saying, lambda: middle(saying, first))

    def test_errors_in_turn(self):
        wrongs = [(2,), (-1,), (0, 0), (1, 0), [0], [], 0, None, (F,), (0, T), ("0",), ([0],), ({},), ((),), (0, 1, 2)]
        for wrong in strangers() + wrongs:
            if wrong in [(0,), (1,), (0, 1), ()] and repr(wrong) in ("()", "(0,)", "(1,)", "(0, 1)"):
                continue
            self.assert_refused(InvalidNumber, wrong, lambda: middle(TOLD, wrong))
            self.assert_refused(InvalidNumber, wrong, lambda: is_middle(TOLD, wrong, NOT_A))
            self.assert_refused(InvalidNumber, wrong, lambda: is_middle(value=[], first=wrong, saying=TOLD))
            # Holds goes ahead; is_middle does not raise it.
            self.assert_refused(Holds, SMALL, lambda: middle(SMALL, (3,)))
            self.assert_refused(Holds, SMALL, lambda: middle(first=wrong, saying=SMALL))
            self.assert_refused(InvalidNumber, (3,), lambda: is_middle(SMALL, (3,), NOT_A))

    def test_the_greatest(self):
        rng = random.Random(356)
        met = 0
        sizes = [0]
        for saying in without_answers(357, 120):
            for first in some_firsts(rng, saying, 3):
                if len(second.shared(saying, first)) == 5:
                    sizes.append(second.size(self.check(saying, first)))
                    met += 1
        self.assertGreater(met, 30)
        self.assertLessEqual(max(sizes), 300)

    def odd_against_even(self):
        """A saying of 14 copies, five of which both halves tell, and the indexes of its halves.

        One half asks for an odd number of True among the five, the other one for an even number.
        """
        odd, even = odd_or_even("abcde", T), odd_or_even("abcde", F)
        clauses = odd[:1] + [clause + (("f", T),) for clause in odd[1:]] + [(("f", F), ("g", T)), (("g", F), ("x", T))]
        clauses.append((("g", F), ("x", F), ("y", T)))
        others = [clause + (("h", F),) for clause in even[:3]] + even[3:] + [(("h", T),)]
        owns = tuple((name, ()) for name in "abcde") + (("f", ("x", "y")), ("g", ("x", "y")), ("h", ()))
        saying = (("x", "y"), owns, tuple(sorted(clauses + others)))
        return saying, [tuple(index for index, clause in enumerate(saying[2]) if clause in half)
                        for half in (clauses, others)]

    def test_odd_against_even(self):
        saying, firsts = self.odd_against_even()
        self.assertEqual(len(oracle.copies(saying)), 14)
        for first in firsts:
            told = self.check(saying, first)
            self.assertEqual(second.letters(told), {(name, ()) for name in "abcde"})
            self.assertGreater(second.size(told), 100)

    def test_greatest_marked_sayings(self):
        """Sixty tuples within one another, and two thousand of them."""
        rng = random.Random(358)
        great, firsts = self.odd_against_even()
        for saying, first in [(LINKED, (1, 2, 4)), (great, firsts[0]), (great, firsts[1])]:
            right = middle(saying, first)
            for kind, end, other in (("both", ("true",), ("false",)), ("either", ("false",), ("true",))):
                value = right
                while second.depth(value) < 59:
                    value = (kind, value, end) if rng.random() < 0.5 else (kind, end, value)
                self.assertIs(is_middle(saying, first, (kind, value, end)), T)
                self.assertEqual(second.depth((kind, value, end)), 60)
                self.assertIs(is_middle(saying, first, (kind, value, other)), F)
            parts = [right] * (2000 // (second.size(right) + 1))
            while len(parts) > 1:
                parts.append((rng.choice(("both", "either")), parts.pop(0), parts.pop(0)))
            wide = parts[0]
            self.assertGreater(second.size(wide), 1800)
            self.assertLessEqual(second.depth(wide), 60)
            self.assertLessEqual(second.size(wide), 2000)
            self.assertIs(is_middle(saying, first, wide), T)
            self.assertIs(is_middle(saying, first, ("both", wide, ("letter", "b", (), T))), F)
            self.assertIs(is_middle(saying, first, ("either", wide, ("letter", "b", (), T))), F)


class Marked(Guarded):

    def test_any_object_is_no_middle_and_no_marked_saying(self):
        rng = random.Random(359)
        value = ("either", ("both", NOT_A, ("true",)), ("letter", "a", (), T))
        for wrong in strangers() + list(mutants(value)) + [
                ["true"], ("true", ()), ("false", 1), ("True",), (T,), ("true", "false"), ("letter",), ("letter", "a", ()),
                ("letter", "a", (), 1), ("letter", "a", [], F), ("letter", "a", (T,), F), ("letter", "b", (), F),
                ("letter", "x", (), F), ("letter", "a", (), F, T), ["letter", "a", (), F], ("letter", ("a", ()), F),
                ("both",), ("both", NOT_A), ("both", NOT_A, NOT_A, NOT_A), ("both", NOT_A, None), ("both", None, NOT_A),
                ("either", NOT_A, ["true"]), ("either", [], NOT_A), ["both", NOT_A, NOT_A], ("and", NOT_A, NOT_A),
                ("both", NOT_A, ("letter", "a", (), 0)), ("either", ("letter", ["a"], (), T), NOT_A), ("not", NOT_A),
                ("letter", {}, (), T), ("letter", "a", {}, T), (b"true",), ((),), (("true",),), "true"]:
            if not second.marked(TOLD, wrong):
                self.assertIs(is_middle(TOLD, (0,), wrong), F)
                for answers in (((T,),), None, []):
                    self.assert_refused(InvalidMarked, wrong, lambda: is_so(TOLD, wrong, answers))
            else:
                self.assertIs(is_middle(TOLD, (0,), wrong), second.middle(TOLD, (0,), wrong))
                self.assertIs(is_so(TOLD, wrong, ((T,),)), second.is_so(TOLD, wrong, ((T,),)))
        deep = ("true",)
        for _ in range(98):
            deep = ("both", deep, ("true",)) if rng.random() < 0.5 else ("either", ("false",), deep)
        self.assertIs(is_so(TOLD, deep, ((T,),)), T)
        wrong = ["true"]
        for _ in range(98):
            wrong = ("both", wrong, ("true",))
        self.assert_refused(InvalidMarked, wrong, lambda: is_so(TOLD, wrong, ((T,),)))
        self.assertIs(is_middle(TOLD, (0,), wrong), F)

    def test_copies_that_see_other_truths(self):
        saying = (("x",), (("a", ("x",)),), ((("a", T),),))
        for what in [(), (1,), (F, F), [T], "T", None, (None,)]:
            wrong = ("letter", "a", what, T)
            self.assert_refused(InvalidMarked, wrong, lambda: is_so(saying, wrong, ((T, F),)))
        self.assert_same([is_so(saying, ("letter", "a", (seen,), truth), ((T, F),)) for seen in (F, T) for truth in (F, T)],
                         [F, T, T, F])

    def test_is_so_by_answers(self):
        rng = random.Random(360)
        met = [0, 0]
        for saying in SAYINGS + some_sayings(361, 40, 12):
            copies = oracle.copies(saying)
            for _ in range(30):
                value = some_marked(rng, copies, rng.randint(0, 5))
                answers = some_answers(rng, saying)
                wanted = second.is_so(saying, value, answers)
                self.assertIs(is_so(saying, value, answers), wanted)
                self.assertIs(is_so(answers=answers, marked=value, saying=saying), wanted)
                met[wanted] += 1
        self.assertGreater(min(met), 200)
        self.assert_same([is_so(EMPTY, ("true",), ()), is_so(EMPTY, ("false",), ())], [T, F])

    def test_answers_are_refused_behind_the_marked_saying(self):
        for saying in (TOLD, SMALL, EMPTY):
            for wrong in strangers() + [((T, F),), [[T]], ((1,),), ((T,), ()), ((F, T), [T, T])]:
                if not oracle.answers(saying, wrong):
                    self.assert_refused(InvalidAnswers, wrong, lambda: is_so(saying, ("true",), wrong))
                    self.assert_refused(InvalidMarked, ["true"], lambda: is_so(saying, ["true"], wrong))
