"""Points 30 and 31: reached, hangs, idle, papers, sights made smaller and greater; facts I1 and I2."""

import itertools
import random

from onlyseen.errors import InvalidName, InvalidSaying, NoAnswers
from onlyseen.settling import has_answers
from onlyseen.sights import (
    could_see, hangs, idle, idle_holds, idle_paper, least_sights, reached, thinned, with_sight, without_sight,
)
from tests import oracle
from tests.guard import Guarded
from tests.samples import (
    BARRED, EIGHT_OWNS, EMPTY, LARGEST_OWNS, NO_CLAUSES, NO_OWNS, NO_PICKS, PICKS, SAYINGS, SMALL, THREE,
    WITHOUT_ANSWERS, great_sayings, mutants, some_sayings, strangers, tight_sayings,
)

F, T = False, True

# Of the document, point 31.
TOLD = (("x", "y"), (("a", ("x", "y")), ("b", ("y",))), (
    (("a", F), ("x", T)), (("a", T), ("x", F)), (("b", T), ("y", F)),
))
# From x the way goes by a and b to c: c has to be x; but with the contraries in one clause the way ends.
CHAIN = (("x",), (("a", ("x",)), ("b", ("x",)), ("c", ("x",)), ("d", ())), (
    (("a", F), ("b", T)), (("a", F), ("d", F)), (("a", T), ("x", F)), (("b", F), ("c", T)), (("c", F), ("x", T)),
))


# The document read a second time, with plain sets.

def viewers(of, pick):
    return {name for name, sight in of[1] if pick in sight}


def step(of, pick, letter):
    """What is reached of a letter at once: of one of the pick, or the contrary of a letter that is reached."""
    found = set()
    for clause in of[2]:
        if letter in clause:
            found |= {other for other in clause if other[0] in viewers(of, pick) and other != letter}
    return found


def all_reached(of, pick, truth):
    found = step(of, pick, (pick, truth))
    while True:
        more = set(found)
        for name, one in found:
            more |= step(of, pick, (name, not one))
        if more == found:
            return found
        found = more


def hanging(of, name, pick):
    if name not in viewers(of, pick):
        return False
    by_true, by_false = all_reached(of, pick, T), all_reached(of, pick, F)
    return any((name, one) in by_true and (name, not one) in by_false for one in (F, T))


def all_idle(of):
    return sorted((name, pick) for pick in of[0] for name in viewers(of, pick) if not hanging(of, name, pick))


def papers_are(of, name, pick, value):
    """Whether an object is a paper."""
    if name not in viewers(of, pick) or type(value) is not tuple or len(value) != 2:
        return False
    for half in value:
        if type(half) is not tuple or not all(oracle.letter(one) for one in half) or not oracle.ascending(half):
            return False
        if not {one[0] for one in half} <= viewers(of, pick):
            return False
    for half, truth in zip(value, (T, F)):
        if not step(of, pick, (pick, truth)) <= set(half):
            return False
        if not all(step(of, pick, (one, not other)) <= set(half) for one, other in half):
            return False
    return not any((name, one) in value[0] and (name, not one) in value[1] for one in (F, T))


def with_sights(of, sights):
    return (of[0], tuple((own[0], sight) for own, sight in zip(of[1], sights)), of[2])


def changed(of, name, pick, sees):
    owns = {own: set(sight) for own, sight in of[1]}
    owns[name] = owns[name] | {pick} if sees else owns[name] - {pick}
    return (of[0], tuple((own, tuple(sorted(sight))) for own, sight in sorted(owns.items())), of[2])


def counted(of):
    return oracle.Truths(of).many()


def least(of):
    """The least sights, by going through all."""
    parts = [[part for many in range(len(sight) + 1) for part in itertools.combinations(sight, many)]
             for _, sight in of[1]]
    every = sorted((sum(len(part) for part in sights), sights) for sights in itertools.product(*parts))
    for _, sights in every:
        if counted(with_sights(of, sights)):
            return sights
    return None


def small_sayings():
    return SAYINGS + [TOLD, CHAIN] + some_sayings(31, 60, 9, 8) + tight_sayings(32, 120, 12, 14)


def pairs(of):
    return [(name, pick) for name, _ in of[1] for pick in of[0]]


class Reaching(Guarded):

    def test_by_plain_sets(self):
        met = set()
        for saying in small_sayings() + great_sayings(33, 10):
            for pick in saying[0]:
                for truth in (F, T):
                    self.assert_same(reached(saying, pick, truth), tuple(sorted(all_reached(saying, pick, truth))))
            for name, pick in pairs(saying):
                wanted = hanging(saying, name, pick)
                self.assertIs(hangs(saying, name, pick), wanted)
                met.add((wanted, name in viewers(saying, pick)))
            self.assert_same(idle(saying), all_idle(saying))
        self.assertEqual(met, {(F, F), (F, T), (T, T)})

    def test_the_way_of_a_chain(self):
        self.assert_same(reached(CHAIN, "x", F), (("a", T), ("b", T), ("c", T)))
        self.assert_same(reached(CHAIN, "x", T), (("a", F), ("b", F), ("c", F)))
        self.assert_same([hangs(CHAIN, name, "x") for name in "abcd"], [T, T, T, F])
        self.assert_same(idle(CHAIN), [])
        # The letter that is left is not reached by its own clause.
        saying = (("x",), (("a", ("x",)), ("b", ("x",))), ((("a", F), ("b", T)), (("a", T), ("x", F))))
        self.assert_same(reached(saying, "x", F), (("a", T), ("b", T)))
        self.assert_same(reached(saying, "x", T), ())
        self.assert_same(idle(saying), [("a", "x"), ("b", "x")])

    def test_owns_that_do_not_see_the_pick_end_the_way(self):
        saying = (("x",), (("a", ("x",)), ("b", ()), ("c", ("x",))), (
            (("a", F), ("b", T)), (("a", T), ("x", F)), (("b", F), ("c", T)),
        ))
        self.assert_same(reached(saying, "x", F), (("a", T),))

    def test_the_letters_of_a_clause_with_the_pick_reach_each_other_from_elsewhere_alone(self):
        saying = (("x",), (("a", ("x",)), ("b", ("x",))), ((("a", F), ("b", F), ("x", T)), (("a", T), ("b", T))))
        self.assert_same(reached(saying, "x", T), (("a", F), ("a", T), ("b", F), ("b", T)))
        self.assert_same(reached(saying, "x", F), ())

    def test_the_edges(self):
        self.assert_same([idle(EMPTY), idle(NO_OWNS), idle(NO_PICKS), idle(BARRED)], [[], [], [], []])
        self.assert_same(idle(NO_CLAUSES), [("b", "x")])
        self.assert_same([reached(NO_CLAUSES, "x", T), reached(NO_OWNS, "x", T)], [(), ()])
        self.assertIs(hangs(NO_CLAUSES, "a", "x"), F)
        self.assertIs(hangs(WITHOUT_ANSWERS, "a", "x"), F)
        self.assert_same(idle(WITHOUT_ANSWERS), [("a", "y")])


class Papers(Guarded):

    def test_what_is_told_holds(self):
        for saying in small_sayings():
            for name, pick in pairs(saying):
                paper = idle_paper(saying, name, pick)
                if name not in viewers(saying, pick) or hanging(saying, name, pick):
                    self.assertIsNone(paper)
                else:
                    self.assertIs(papers_are(saying, name, pick, paper), T)
                    self.assertIs(idle_holds(saying, name, pick, paper), T)

    def test_all_papers_of_small_sayings(self):
        counts = [0, 0]
        for saying in [TOLD, SMALL, CHAIN, WITHOUT_ANSWERS, NO_CLAUSES] + tight_sayings(34, 12, 8, 6):
            for name, pick in pairs(saying):
                letters = [(own, truth) for own in sorted(viewers(saying, pick))[:3] for truth in (F, T)]
                halves = [half for many in range(len(letters) + 1) for half in itertools.combinations(letters, many)]
                if len(halves) > 16:
                    halves = halves[::3] + [tuple(sorted(all_reached(saying, pick, truth))) for truth in (F, T)]
                for value in itertools.product(halves, repeat=2):
                    wanted = papers_are(saying, name, pick, value)
                    self.assertIs(idle_holds(saying, name, pick, value), wanted)
                    counts[wanted] += 1
        self.assertGreater(min(counts), 100)

    def test_any_object(self):
        paper = ((), (("b", T),))
        for saying, name, pick in [(TOLD, "b", "y"), (TOLD, "b", "x"), (TOLD, "a", "x"), (SMALL, "a", "x")]:
            for value in strangers() + list(mutants(paper)):
                self.assertIs(idle_holds(saying, name, pick, value), papers_are(saying, name, pick, value))

    def test_papers_that_are_none(self):
        self.assertIs(idle_holds(TOLD, "b", "y", ((), (("b", T),))), T)
        for value in [((), ()), ((("b", T),), ()), [(), (("b", T),)], ((), [("b", T)]), ((), (["b", T],)),
                      ((), (("b", 1),)), ((), (("b", T), ("b", T))), ((), (("b", T), ("b", F))), ((), (("b", T),), ()),
                      ((), (("b", T), ("x", T))), ((), (("b", T), ("c", T))), ((("b", F),), (("b", T),)),
                      ((("b", F), ("b", T)), (("b", T),)), ((), (("b", T, T),)), ((), (("b",),)), None, (), ((),),
                      ((), (("b", T), None)), ((), (("b", T), [])), ((), (({}, T), ("b", T))), "()", ((), None)]:
            self.assertIs(idle_holds(TOLD, "b", "y", value), F)
        # Letters that no clause has may stand there, too; a letter with what is reached of it.
        self.assertIs(idle_holds(TOLD, "b", "y", ((), (("a", T), ("b", T)))), T)
        self.assertIs(idle_holds(TOLD, "b", "y", ((("b", T),), (("a", F), ("a", T), ("b", T)))), T)
        self.assertIs(idle_holds(TOLD, "a", "y", ((), (("b", T),))), T)
        saying = (("x",), (("a", ("x",)), ("b", ("x",)), ("c", ("x",))), ((("a", F), ("b", T)), (("c", T), ("x", T))))
        self.assertIs(idle_holds(saying, "c", "x", ((("c", T),), ())), T)
        self.assertIs(idle_holds(saying, "c", "x", ((("c", T),), (("a", T),))), F)
        self.assertIs(idle_holds(saying, "c", "x", ((("c", T),), (("a", T), ("b", T)))), T)
        self.assertIs(idle_holds(saying, "c", "x", ((("b", F), ("c", T)), ())), F)
        self.assertIs(idle_holds(saying, "c", "x", ((("a", F), ("b", F), ("c", T)), ())), T)

    def test_an_own_that_is_no_viewer(self):
        for value in [((), ()), ((), (("b", T),)), None, (("a", T),)]:
            self.assertIs(idle_holds(TOLD, "b", "x", value), F)
            self.assertIs(idle_holds(THREE, "c", "p", value), F)
        self.assertIsNone(idle_paper(TOLD, "b", "x"))


class Changing(Guarded):

    def test_one_pick_less_and_one_more(self):
        for saying in small_sayings():
            for name, pick in pairs(saying):
                self.assert_same(without_sight(saying, name, pick), changed(saying, name, pick, F))
                self.assert_same(with_sight(saying, name, pick), changed(saying, name, pick, T))
                if pick in dict(saying[1])[name]:
                    self.assert_same(with_sight(saying, name, pick), saying)
                    self.assert_same(with_sight(without_sight(saying, name, pick), name, pick), saying)
                else:
                    self.assert_same(without_sight(saying, name, pick), saying)

    def test_more_than_120_copies(self):
        for owns in (LARGEST_OWNS, EIGHT_OWNS):
            saying = (PICKS, owns, ((("a", T), ("u", F)),))
            for name, sight in owns:
                for pick in PICKS:
                    greater = changed(saying, name, pick, T)
                    if pick in sight:
                        self.assert_same(with_sight(saying, name, pick), saying)
                    else:
                        self.assert_refused(InvalidSaying, greater, lambda: with_sight(saying, name, pick))
            self.assert_same(could_see(saying), [])
        fives = (("a", PICKS[:5]), ("b", PICKS[:5]), ("c", PICKS[1:]))
        saying = (PICKS, fives + (("d", PICKS[:4]), ("e", PICKS[:2])), ())
        self.assert_same(could_see(saying), [("e", "w"), ("e", "x"), ("e", "y"), ("e", "z")])
        self.assert_same(len(oracle.copies(with_sight(saying, "e", "x"))), 120)
        self.assert_refused(InvalidSaying, changed(saying, "d", "y", T), lambda: with_sight(saying, "d", "y"))

    def test_thinned(self):
        for saying in small_sayings() + great_sayings(35, 5):
            wanted = saying
            while all_idle(wanted):
                wanted = changed(wanted, *all_idle(wanted)[0], F)
            self.assert_same(thinned(saying), wanted)
        self.assert_same(thinned(EMPTY), EMPTY)
        self.assert_same(thinned(TOLD)[1], (("a", ("x",)), ("b", ())))

    def test_could_see(self):
        met = 0
        for saying in small_sayings() + great_sayings(36, 4):
            wanted = []
            for name, pick in sorted(pairs(saying)):
                greater = changed(saying, name, pick, T)
                if pick not in dict(saying[1])[name] and oracle.saying(greater) and not hanging(greater, name, pick):
                    wanted.append((name, pick))
            self.assert_same(could_see(saying), wanted)
            met += len(wanted)
        self.assertGreater(met, 100)

    def test_i1_without_an_idle_pick_there_are_answers_exactly_if_there_were(self):
        met = [0, 0]
        for saying in small_sayings():
            some = counted(saying) > 0
            self.assertIs(counted(thinned(saying)) > 0, some)
            for name, pick in idle(saying):
                self.assertIs(counted(without_sight(saying, name, pick)) > 0, some)
                met[some] += 1
            for name, pick in could_see(saying):
                greater = with_sight(saying, name, pick)
                if len(oracle.copies(greater)) < 18:
                    self.assertIs(counted(greater) > 0, some)
        self.assertGreater(min(met), 30)

    def test_i2_a_pick_on_which_an_own_hangs_may_be_without_use(self):
        met = 0
        for saying in tight_sayings(37, 60, 12, 14):
            for name, pick in pairs(saying):
                if hangs(saying, name, pick) and counted(saying):
                    met += counted(without_sight(saying, name, pick)) > 0
        self.assertGreater(met, 10)


class Least(Guarded):

    def check(self, saying):
        wanted = least(saying)
        if wanted is None:
            self.assert_refused(NoAnswers, saying, lambda: least_sights(saying))
            return None
        self.assert_same(least_sights(saying), wanted)
        return sum(len(sight) for sight in wanted)

    def test_all_parts_of_sights(self):
        met = {}
        for saying in small_sayings() + tight_sayings(38, 200, 14, 16):
            if sum(len(sight) for _, sight in saying[1]) <= 8:
                many = self.check(saying)
                met[many] = met.get(many, 0) + 1
        self.assertTrue({None, 0, 1, 2} <= set(met), met)

    def test_owns_that_need_what_they_see(self):
        rng = random.Random(39)
        met = set()
        for number in range(40):
            owns = [(("a", ("x", "y", "z")), ("b", ("x",)), ("c", ("y", "z"))), (("a", ("w", "x")), ("b", ("y", "z"))),
                    (("a", ("x", "y", "z")),), (("a", ("w", "x", "y", "z")),)][number % 4]
            picks = ("w", "x", "y", "z")
            planted = {copy: rng.random() < 0.5 for copy in oracle.copies((picks, owns, ()))}
            clauses = set()
            for copy, truth in planted.items():
                if rng.random() < 0.8:
                    seen = dict(zip(dict(owns)[copy[0]], copy[1]))
                    clauses.add(tuple(sorted([(copy[0], truth)] + [(pick, not one) for pick, one in seen.items()])))
            met.add(self.check((picks, owns, tuple(sorted(clauses)))))
        self.assertTrue({1, 2, 3, 4} <= met, met)

    def test_the_first_as_tuples_compare(self):
        owns = (("a", ("x", "y")), ("b", ("x", "y")))
        # One of the two has to see x, or y.
        unlike = ((("a", F), ("b", F), ("x", T)), (("a", F), ("b", T), ("x", F)),
                  (("a", T), ("b", F), ("x", F)), (("a", T), ("b", T), ("x", T)))
        self.assert_same(least_sights((("x", "y"), owns, unlike)), ((), ("x",)))
        self.assert_same(least_sights((("x", "y"), (owns[0], ("b", ("y",))), unlike)), (("x",), ()))
        either = tuple(sorted([(("a", F), ("x", T), ("y", T)), (("a", T), ("x", F), ("y", F))]))
        self.assert_same(least_sights((("x", "y"), owns, either)), (("x",), ()))
        self.assert_same(least_sights((("x", "y"), (("a", ("y",)), owns[1]), either)), (("y",), ()))

    def test_the_edges(self):
        self.assert_same([least_sights(EMPTY), least_sights(NO_PICKS), least_sights(NO_CLAUSES)], [(), ((), ()), ((), ())])
        for saying in (BARRED, NO_OWNS, WITHOUT_ANSWERS):
            self.assert_refused(NoAnswers, saying, lambda: least_sights(saying))

    def test_the_least_is_enough_and_no_less_is(self):
        for saying in tight_sayings(40, 60, 20, 16):
            if sum(len(sight) for _, sight in saying[1]) <= 8 and has_answers(saying):
                sights = least_sights(saying)
                self.assertGreater(counted(with_sights(saying, sights)), 0)
                for at, sight in enumerate(sights):
                    for pick in sight:
                        less = sights[:at] + (tuple(one for one in sight if one != pick),) + sights[at + 1:]
                        self.assertEqual(counted(with_sights(saying, less)), 0)


class Names(Guarded):

    def test_objects_that_are_no_names_of_owns_or_picks(self):
        calls = [(hangs, 2), (idle_paper, 2), (without_sight, 2), (with_sight, 2), (idle_holds, 3)]
        for function, many in calls:
            for wrong in strangers() + ["x", "y", "c", "", ["a"]]:
                if wrong not in ("a", "b") or type(wrong) is not str:
                    for pick in ("x", "q", None, [[]], wrong):
                        passed = (TOLD, wrong, pick) + (((), ()),) * (many - 2)
                        self.assert_refused(InvalidName, wrong, lambda: function(*passed))
            for wrong in strangers() + ["a", "b", "c", "", ["x"]]:
                if wrong not in ("x", "y") or type(wrong) is not str:
                    passed = (TOLD, "a", wrong) + ((wrong,) * (many - 2))
                    self.assert_refused(InvalidName, wrong, lambda: function(*passed))
        for wrong in strangers() + ["a", "b", "c", "", ["x"]]:
            if wrong not in ("x", "y") or type(wrong) is not str:
                self.assert_refused(InvalidName, wrong, lambda: reached(TOLD, wrong, T))
                self.assert_refused(InvalidName, wrong, lambda: reached(truth=F, pick=wrong, saying=TOLD))
