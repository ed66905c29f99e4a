"""Point 35: cuts, shorter sayings, the ways back of answers and refutations; fact D1."""

import random

from onlyseen.errors import Broken, InvalidAnswers, InvalidCut, InvalidRefutation
from onlyseen.settling import has_answers, settle
from onlyseen.shorter import after_cut, answers_back, cuts, refutation_back, shorter
from tests import checker, oracle, second
from tests.guard import Timed, inner_parts
from tests.samples import (
    BARRED, EMPTY, NO_CLAUSES, NO_OWNS, NO_PICKS, PICKS, SAYINGS, SMALL, THREE, WITHOUT_ANSWERS, clauses_over,
    great_sayings, largest_sayings, mutants, parity_sayings, some_sayings, strangers, tight_sayings,
)

F, T = False, True

# Of the document, point 35.
TOLD = (("x", "y"), (("a", ("y",)), ("b", ())), ((("a", F), ("x", T)), (("a", T), ("x", F)), (("b", T), ("y", T))))

# Each of these cuts is of one kind; behind one all that is left is the empty clause.
PICKS_ALONE = (("x", "y"), (("a", ("x", "y")),), ((("a", T), ("x", T)), (("x", F), ("y", T))))
TWICE = (("x",), (("a", ()),), ((("a", T), ("x", F)), (("a", T), ("x", T))))
IN_NONE = (("x",), (("a", ("x",)), ("b", ())), ((("b", F), ("x", F)), (("b", T),)))


def with_cuts(seed, many):
    """Sayings most of which have several cuts, of all kinds."""
    rng = random.Random(seed)
    found = []
    for _ in range(many):
        picks = PICKS[:rng.randint(1, 4)]
        owns = tuple((name, tuple(sorted(rng.sample(picks, rng.randint(0, min(2, len(picks))))))) for name in "abcd"[:rng.randint(2, 4)])
        clauses = set()
        for _ in range(rng.randint(2, 10)):
            clauses.update(clauses_over(rng, picks, owns, 1, rng.randint(0, min(2, len(picks))), rng.randint(0, 2)))
        found.append((picks, owns, tuple(sorted(clauses))))
    return found


def small_sayings():
    return SAYINGS + [TOLD, PICKS_ALONE, TWICE, IN_NONE] + some_sayings(370, 60) + tight_sayings(371, 40, 12, 12)


def drawn_cuts(rng, saying, most):
    """A list of cuts, each of which may be taken where it stands; the sayings ahead of and behind them."""
    done, sayings = [], [saying]
    while len(done) < most and second.cuts(sayings[-1]):
        done.append(rng.choice(second.cuts(sayings[-1])))
        sayings.append(second.after(sayings[-1], done[-1]))
    return done, sayings


class Cuts(Timed):

    def test_all_cuts_and_what_is_behind_them(self):
        met = {}
        for saying in small_sayings() + with_cuts(372, 150) + great_sayings(373, 4):
            found = cuts(saying)
            self.assert_same(found, second.cuts(saying))
            self.assert_same(found, sorted(found))
            for cut in found:
                left = after_cut(saying, cut)
                self.assert_same(left, second.after(saying, cut))
                self.assertIs(oracle.saying(left), T)
                met[cut[0]] = met.get(cut[0], 0) + 1
        self.assertGreater(min(met.values()), 100)
        self.assertEqual(sorted(met), ["pure", "reduce", "swallow"])

    def test_the_edges(self):
        self.assert_same([cuts(EMPTY), cuts(BARRED), cuts((("x",), (), ()))], [[], [], []])
        # An own in no clause: either truth; without owns any pick's letter; clauses that come to be the same.
        self.assert_same(cuts(NO_CLAUSES), [("pure", name, truth) for name in "ab" for truth in (F, T)])
        self.assert_same(after_cut(NO_CLAUSES, ("pure", "a", T)), (("x",), (("b", ("x",)),), ()))
        clause = (("x", F), ("y", T))
        self.assert_same(cuts(PICKS_ALONE), [("pure", "a", T), ("reduce", clause, "x"), ("reduce", clause, "y")])
        self.assert_same(shorter(PICKS_ALONE)[0], (("x", "y"), (), ((),)))
        self.assert_same(after_cut(TWICE, ("reduce", (("a", T), ("x", F)), "x")),
                         (("x",), (("a", ()),), ((("a", T),), (("a", T), ("x", T)))))
        self.assert_same(shorter(TWICE), ((("x",), (), ()), [("pure", "a", T)]))
        less = (("x",), (("a", ()),), ((("a", F),), (("a", T), ("x", F)), (("a", T), ("x", T))))
        self.assert_same(shorter(less), ((("x",), (("a", ()),), ((("a", F),), (("a", T),))), [
            ("reduce", (("a", T), ("x", F)), "x"), ("reduce", (("a", T), ("x", T)), "x"),
        ]))
        self.assert_same(cuts(IN_NONE), [("pure", "a", F), ("pure", "a", T), ("reduce", (("b", F), ("x", F)), "x")])
        self.assert_same(shorter(NO_OWNS)[0], (("x", "y"), (), ((),)))
        self.assert_same(cuts(NO_PICKS), [])
        self.assert_same(cuts(WITHOUT_ANSWERS), [("reduce", clause, "x") for clause in WITHOUT_ANSWERS[2]])

    def test_the_empty_clause_swallows_all(self):
        saying = (("x",), (("a", ("x",)),), ((), (("a", F), ("x", T)), (("a", T), ("x", F))))
        self.assert_same(cuts(saying), [("swallow", saying[2][1]), ("swallow", saying[2][2])])
        self.assert_same(shorter(saying)[0], (("x",), (), ((),)))
        self.assert_same(after_cut(saying, ("swallow", saying[2][1])), saying[:2] + (((), saying[2][2]),))

    def test_a_letter_goes_only_if_no_own_of_the_clause_sees_it(self):
        owns = (("a", ("x",)), ("b", ("y",)), ("c", ()))
        clause = (("a", T), ("b", F), ("c", T), ("x", T), ("y", T), ("z", T))
        saying = (("x", "y", "z"), owns, (clause, (("a", F), ("b", T), ("c", F)),))
        saying = saying[:2] + (tuple(sorted(saying[2])),)
        self.assert_same(cuts(saying), [("reduce", clause, "z")])
        clause = clause[1:]
        saying = saying[:2] + (tuple(sorted([clause, (("a", F), ("b", T), ("c", F)), (("a", T),)])),)
        self.assert_same(cuts(saying), [("reduce", clause, "x"), ("reduce", clause, "z")])

    def test_shorter(self):
        for saying in small_sayings() + with_cuts(374, 150) + great_sayings(375, 6) + parity_sayings():
            found = shorter(saying)
            self.assert_same(found, second.shorter(saying))
            self.assert_same(cuts(found[0]), [])
            self.assertEqual(len([part for part in inner_parts(found) if type(part) is list]), 1)

    def test_d1_there_are_answers_exactly_if_there_were(self):
        met = [0, 0]
        for saying in small_sayings() + with_cuts(376, 150):
            some = oracle.can_be_met(oracle.demands(saying))
            self.assertIs(has_answers(shorter(saying)[0]), some)
            for cut in cuts(saying):
                self.assertIs(oracle.can_be_met(oracle.demands(after_cut(saying, cut))), some)
            met[some] += 1
        self.assertGreater(min(met), 40)

    def test_objects_that_are_no_cuts(self):
        wholes = [TOLD, PICKS_ALONE, IN_NONE, (("x",), (("a", ("x",)),), ((), (("a", F), ("x", T)), (("a", T),)))]
        for saying in wholes + with_cuts(377, 3):
            right = second.cuts(saying)
            values = strangers() + [other for cut in right[:3] + right[-2:] for other in mutants(cut)]
            values += [cut for other in wholes for cut in second.cuts(other)]
            values += [list(right[0]), ("pure", "a", 0), ("pure", "a", 1), ("pure", "b", 0), ("pure", "b", 1), ("pure", "x", T),
                       ("swallow", ()), ("reduce", (), "x"), ("reduce", right[-1][1], ["x"]), ("swallow", saying[2][0]),
                       ("reduce", saying[2][0], "a"), ("reduce", saying[2][0], "z"), ("Pure", "a", T), ("pure", "a"),
                       ("swallow", list(saying[2][-1])), ("reduce", [list(one) for one in saying[2][-1]], "x")]
            for value in values:
                if repr(value) not in [repr(cut) for cut in right]:
                    self.assert_refused(InvalidCut, value, lambda: after_cut(saying, value))
                    self.assert_refused(InvalidCut, value, lambda: after_cut(cut=value, saying=saying))

    def test_truths_that_are_one(self):
        clause = (("a", 1), ("x", 0))
        saying = (("x",), (("a", ()),), ((("a", F),), (("a", T), ("x", F))))
        for value in [("reduce", clause, "x"), ("reduce", (("a", T), ("x", 0)), "x"), ("swallow", clause)]:
            self.assert_refused(InvalidCut, value, lambda: after_cut(saying, value))
        self.assert_same(after_cut(saying, ("reduce", (("a", T), ("x", F)), "x"))[2], ((("a", F),), (("a", T),)))

    def test_the_greatest(self):
        for saying in great_sayings(378, 20) + largest_sayings() + parity_sayings():
            for function in (cuts, shorter):
                self.timed(function, saying)
        rng = random.Random(379)
        owns = (("a", ()), ("b", ("u",)), ("c", ("v",)), ("d", ()), ("e", ("w",)), ("f", ()), ("g", ()), ("h", ("x",)))
        for _ in range(6):
            saying = (PICKS, owns, clauses_over(rng, PICKS, owns, 40, 5, 3))
            left, done = self.timed(shorter, saying)
            self.assertGreater(len(done), 30)
            self.assert_same((left, done), second.shorter(saying))
            kind, told = settle(left)
            if kind == "answers":
                found = self.timed(answers_back, saying, done, told)
                self.assertIsNone(oracle.broken_at(saying, found))
            else:
                found = self.timed(refutation_back, saying, done, told)
                self.assertIs(checker.refutes(saying, found), T)


class Back(Timed):

    def test_answers(self):
        rng = random.Random(380)
        met = 0
        for saying in small_sayings() + with_cuts(381, 150):
            for most in (0, 1, 3, 100):
                done, sayings = drawn_cuts(rng, saying, most)
                kind, told = settle(sayings[-1])
                if kind == "answers":
                    found = answers_back(saying, done, told)
                    self.assertIs(oracle.answers(saying, found), T)
                    self.assertIsNone(oracle.broken_at(saying, found))
                    self.check_answers(saying, done, sayings[-1], told, found)
                    self.assert_same(answers_back(answers=told, cuts=list(done), saying=saying), found)
                    met += bool(done)
        self.assertGreater(met, 150)

    def check_answers(self, saying, done, left, told, found):
        """Each own that has gone is its truth throughout, each other one as it was."""
        kept = dict(zip([own[0] for own in left[1]], told))
        gone = {cut[1]: cut[2] for cut in done if cut[0] == "pure"}
        self.assertEqual(set(kept) | set(gone), {own[0] for own in saying[1]})
        for (name, sight), table in zip(saying[1], found):
            self.assert_same(table, kept.get(name, (gone.get(name),) * 2 ** len(sight)))

    def test_all_answers_of_small_sayings(self):
        rng = random.Random(382)
        for saying in [TOLD, NO_CLAUSES, PICKS_ALONE, SMALL] + with_cuts(383, 12):
            done, sayings = drawn_cuts(rng, saying, 2)
            if len(oracle.copies(sayings[-1])) <= 9:
                for by in oracle.every_answers(sayings[-1])[::5]:
                    if oracle.broken_at(sayings[-1], by) is None:
                        self.assertIsNone(oracle.broken_at(saying, answers_back(saying, done, by)))
                    else:
                        self.assert_refused(Broken, by, lambda: answers_back(saying, done, by))

    def test_refutations(self):
        rng = random.Random(384)
        met = {}
        some = [saying for saying in small_sayings() + with_cuts(385, 250) if not has_answers(saying)]
        for saying in some + parity_sayings()[:3]:
            for most in (0, 1, 3, 100):
                done, sayings = drawn_cuts(rng, saying, most)
                _, told = settle(sayings[-1])
                # Steps of no use, and at other plays, are led back, too.
                plays = [("play", k, at) for k, clause in enumerate(sayings[-1][2]) for at in oracle.plays(saying)
                         if oracle.letters_at(sayings[-1], clause, at) is not None]
                more = tuple(rng.sample(plays, min(4, len(plays))))
                longer = more + tuple(("join", step[1] + len(more), step[2] + len(more), step[3]) if step[0] == "join"
                                      else step for step in told)
                for value in (told, longer):
                    found = refutation_back(saying, done, value)
                    self.assertIs(checker.refutes(saying, found), T)
                    self.assertEqual(len(found), len(value))
                    self.assert_same(refutation_back(refutation=value, cuts=list(done), saying=saying), found)
                for cut in done:
                    met[cut[0]] = met.get(cut[0], 0) + 1
        self.assertGreater(min(met.values()), 30)
        self.assertEqual(len(met), 3)

    def test_letters_that_go_one_by_one(self):
        """All letters of picks of a clause go; the play is turned so that none of them is so."""
        saying = (("x", "y", "z"), (("a", ()),), ((("a", F), ("x", T), ("y", F), ("z", T)), (("a", T),)))
        left, done = shorter(saying)
        self.assert_same(left[2], ((("a", F),), (("a", T),)))
        for at in oracle.plays(saying):
            steps = (("play", 0, at), ("play", 1, at), ("join", 1, 0, ("a", ())))
            found = refutation_back(saying, done, steps)
            self.assert_same(found[0], ("play", 0, (F, T, F)))
            self.assertIs(checker.refutes(saying, found), T)

    def test_a_clause_that_others_come_to_be(self):
        saying = (("x", "y"), (("a", ()),), ((("a", F),), (("a", T), ("x", T)), (("a", T), ("y", F))))
        done = [("reduce", (("a", T), ("x", T)), "x"), ("reduce", (("a", T), ("y", F)), "y")]
        for some in (done, done[::-1]):
            steps = (("play", 0, (T, T)), ("play", 1, (T, F)), ("join", 1, 0, ("a", ())))
            found = refutation_back(saying, some, steps)
            self.assertIs(checker.refutes(saying, found), T)

    def test_without_cuts(self):
        _, told = settle(WITHOUT_ANSWERS)
        found = refutation_back(WITHOUT_ANSWERS, [], told)
        self.assertIs(checker.refutes(WITHOUT_ANSWERS, found), T)
        self.assertEqual(len(found), len(told))
        self.assert_same(answers_back(EMPTY, [], ()), ())
        self.assert_same(answers_back(SMALL, [], ((F, T), (F, F))), ((F, T), (F, F)))
        self.assert_refused(Broken, ((F, F), (F, F)), lambda: answers_back(SMALL, [], ((F, F), (F, F))))

    def test_many_thousand_steps(self):
        saying = parity_sayings()[4]
        longer = (("t",) + saying[0], saying[1] + (("e", ()),),
                  tuple(sorted([tuple(sorted(clause + (("t", T),))) for clause in saying[2][:39]] + [saying[2][39]])))
        left, done = shorter(longer)
        self.assertEqual(len(done), 40)
        _, told = settle(left)
        self.assertGreater(len(told), 5000)
        found = self.timed(refutation_back, longer, done, told)
        self.assertEqual(len(found), len(told))
        self.assertIs(checker.refutes(longer, found), T)


class BackRefused(Timed):

    def test_the_first_object_that_is_no_cut_where_it_stands(self):
        right = second.shorter(TOLD)[1]
        values = strangers() + [other for cut in right for other in mutants(cut)][::9]
        for function, last in ((answers_back, ()), (refutation_back, ())):
            for at in range(len(right) + 1):
                for value in values:
                    # What is right there, or is a cut there, too, is none of these.
                    left = TOLD
                    for cut in right[:at]:
                        left = second.after(left, cut)
                    if repr(value) not in [repr(cut) for cut in second.cuts(left)]:
                        row = right[:at] + [value] + right[at:]
                        before = list(row)
                        self.assert_refused(InvalidCut, value, lambda: function(TOLD, row, last))
                        self.assertEqual(len(row), len(before))
                        self.assertTrue(all(one is other for one, other in zip(row, before)))
            # The first of two; one that was right further ahead, or twice.
            self.assert_refused(InvalidCut, 1, lambda: function(TOLD, right[:1] + [1, []], last))
            self.assert_refused(InvalidCut, right[0], lambda: function(TOLD, [right[0], right[0]], last))
            late = ("reduce", (("b", T), ("y", T)), "y")
            self.assert_refused(InvalidCut, late, lambda: function(TOLD, [right[0], late], last))

    def test_cuts_go_ahead_of_what_is_led_back(self):
        for function in (answers_back, refutation_back):
            for last in (None, [], ((T,),), 7):
                self.assert_refused(InvalidCut, [1], lambda: function(TOLD, [[1]], last))

    def test_answers_and_refutations_of_other_sayings(self):
        left, done = second.shorter(NO_CLAUSES)
        self.assert_same((left, done), ((("x",), (), ()), [("pure", "a", F), ("pure", "b", F)]))
        self.assert_same(answers_back(NO_CLAUSES, done, ()), ((F,), (F, F)))
        for wrong in strangers() + [((F,), (F, F)), [], [()], ((),)]:
            if wrong != () or type(wrong) is not tuple:
                self.assert_refused(InvalidAnswers, wrong, lambda: answers_back(NO_CLAUSES, done, wrong))
        done = [("pure", "b", T)]
        for wrong in strangers() + [((F,), (T,)), ((F, F),) * 2, [[F, F]], ((F, 0),), ([F, F],), ((F, F), (T,))]:
            self.assert_refused(InvalidAnswers, wrong, lambda: answers_back(TOLD, done, wrong))
        for by in oracle.every_answers(second.after(TOLD, done[0])):
            self.assert_refused(Broken, by, lambda: answers_back(TOLD, done, by))

    def test_refutations_that_are_none_behind_the_cuts(self):
        right = (("play", 0, (F, T)), ("play", 1, (F, T)), ("join", 1, 0, ("a", (T,))))
        left, done = second.shorter(TOLD)
        self.assertIs(checker.refutes(left, right), T)
        first_one = refutation_back(TOLD, done, right)
        self.assertIs(checker.refutes(TOLD, first_one), T)
        for wrong in strangers() + list(mutants(right)) + [list(right), right[:2], ()]:
            if not checker.refutes(left, wrong):
                self.assert_refused(InvalidRefutation, wrong, lambda: refutation_back(TOLD, done, wrong))
            if not checker.refutes(TOLD, wrong):
                self.assert_refused(InvalidRefutation, wrong, lambda: refutation_back(TOLD, [], wrong))
        for saying in (SMALL, THREE, EMPTY):
            for wrong in (right, (), None, []):
                self.assert_refused(InvalidRefutation, wrong, lambda: refutation_back(saying, [], wrong))

    def test_a_list_of_cuts_that_is_none(self):
        for wrong in strangers() + [tuple(second.shorter(TOLD)[1])]:
            if type(wrong) is not list:
                for function in (answers_back, refutation_back):
                    self.assert_refused(InvalidCut, wrong, lambda: function(TOLD, wrong, ()))

    def test_what_is_passed_stays_as_it_is(self):
        rng = random.Random(386)
        for saying in with_cuts(387, 20):
            done, sayings = drawn_cuts(rng, saying, 100)
            before = list(done)
            kind, told = settle(sayings[-1])
            function = answers_back if kind == "answers" else refutation_back
            function(saying, done, told)
            self.assert_same(done, before)
