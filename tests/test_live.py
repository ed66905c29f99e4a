"""Point 36: a live saying, beside plain sets that the test keeps itself."""

import random

from onlyseen.answers import many
from onlyseen.cores import core
from onlyseen.errors import Holds, InvalidClause, InvalidName, InvalidSaying, InvalidSight, Nothing
from onlyseen.live import Live
from onlyseen.settling import has_answers, settle
from onlyseen.sights import idle
from tests import checker, oracle
from tests.guard import Timed, inner_parts
from tests.samples import (
    EIGHT_OWNS, LARGEST_OWNS, NO_OWNS, NO_PICKS, PICKS, SAYINGS, SMALL, THREE, WITHOUT_ANSWERS, great_sayings, mutants,
    palette, parity_sayings, random_clause, strangers, tight_sayings,
)
from tests.wrongs import near_sayings

F, T = False, True


class Plain:
    """What a live saying is, kept as sets; each deed with all that there was ahead of it."""

    def __init__(self, picks, owns):
        self.picks = picks
        self.sights = {name: set(sight) for name, sight in owns}
        self.clauses = set()
        self.deeds = []

    def saying(self):
        owns = tuple((name, tuple(sorted(self.sights[name]))) for name in sorted(self.sights))
        return (self.picks, owns, tuple(sorted(self.clauses)))

    def twin(self):
        other = Plain(self.picks, self.saying()[1])
        other.clauses = set(self.clauses)
        other.deeds = list(self.deeds)
        return other

    def copies(self):
        return sum(2 ** len(sight) for sight in self.sights.values())

    def refused(self, deed):
        """The error of a deed with names and clauses that are right as such, and its value; None if it may be done."""
        word, what = deed[0], deed[1:]
        if word in ("put", "take"):
            wrong = (what[0] in self.clauses) is (word == "put")
            return (InvalidClause, what[0]) if wrong else None
        if word == "back":
            return None if self.deeds else (Nothing, None)
        name, pick = what
        if (pick in self.sights[name]) is (word == "show"):
            return (InvalidSight, what)
        if word == "show" and self.copies() + 2 ** len(self.sights[name]) > 120:
            return (InvalidSight, what)
        return None

    def do(self, deed):
        if deed[0] == "back":
            deed, sights, clauses = self.deeds.pop()
            self.sights, self.clauses = dict(sights), set(clauses)
            return deed[0]
        self.deeds.append((deed, {name: set(sight) for name, sight in self.sights.items()}, set(self.clauses)))
        if deed[0] in ("put", "take"):
            self.clauses = self.clauses ^ {deed[1]}
        else:
            self.sights[deed[1]] = self.sights[deed[1]] ^ {deed[2]}
        return None

    def story(self):
        return tuple(deed for deed, _, _ in self.deeds)


def live_of(saying):
    """A live saying with the clauses of a saying."""
    live = Live(saying[0], saying[1])
    for clause in saying[2]:
        live.put(clause)
    return live


def call(live, deed):
    return getattr(live, deed[0])(*deed[1:])


def drawn_deed(rng, plain):
    """A deed with names and clauses that are right as such; mostly one that may be done."""
    owns = tuple((name, ()) for name in sorted(plain.sights))
    word = rng.choice(["put", "put", "put", "take", "take", "show", "show", "hide", "back", "back"])
    if word == "back":
        return ("back",)
    if word in ("show", "hide"):
        if not plain.picks or not owns:
            return ("back",)
        return (word, rng.choice(owns)[0], rng.choice(plain.picks))
    if plain.clauses and rng.random() < (0.7 if word == "take" else 0.1):
        return (word, rng.choice(sorted(plain.clauses)))
    if word == "put" and len(plain.clauses) == 40:
        return ("back",)
    return (word, random_clause(rng, plain.picks, owns, 3))


class Deeds(Timed):

    def check(self, live, plain):
        saying = plain.saying()
        self.assert_same(live.saying, saying)
        self.assert_same(live.story, plain.story())
        self.assertEqual(len(live), len(plain.clauses))
        self.assertIs(live == live_of(saying), T)

    def step(self, live, plain, deed):
        """Does a deed to both."""
        refused = plain.refused(deed)
        if refused is not None:
            self.assert_refused(refused[0], refused[1], lambda: call(live, deed))
        else:
            self.assert_same(call(live, deed), plain.do(deed))
        return refused is None

    def test_long_rows_of_deeds(self):
        rng = random.Random(410)
        met = {}
        starts = [saying[:2] for saying in SAYINGS + tight_sayings(411, 6, 14, 9)] + [(PICKS, LARGEST_OWNS)]
        for picks, owns in starts:
            pairs = [(Live(picks, owns), Plain(picks, owns))]
            for number in range(250):
                live, plain = rng.choice(pairs)
                deed = drawn_deed(rng, plain)
                done = self.step(live, plain, deed)
                met[(deed[0], done)] = met.get((deed[0], done), 0) + 1
                if number % 60 == 30:
                    pairs.append((live.twin(), plain.twin()))
                for one, other in pairs if number % 10 == 0 else [(live, plain)]:
                    self.check(one, other)
            for live, plain in pairs:
                while plain.deeds:
                    self.step(live, plain, ("back",))
                self.check(live, plain)
                self.assert_same(live.saying, (picks, owns, ()))
                self.step(live, plain, ("back",))
        self.assertEqual(len(met), 10)
        self.assertGreater(min(met.values()), 20)

    def test_at_a_hundred_and_twenty_copies(self):
        rng = random.Random(412)
        met = [0, 0]
        for owns in (LARGEST_OWNS, EIGHT_OWNS, (("a", PICKS), ("b", PICKS[:5]), ("c", PICKS[:4]), ("d", PICKS[:2]))):
            live, plain = Live(PICKS, owns), Plain(PICKS, owns)
            for _ in range(150):
                deed = (rng.choice(["show", "show", "hide", "back"]), rng.choice(owns)[0], rng.choice(PICKS))
                deed = deed[:1] if deed[0] == "back" else deed
                met[self.step(live, plain, deed)] += 1
                self.check(live, plain)
                self.assertLessEqual(len(oracle.copies(live.saying)), 120)
        self.assertGreater(min(met), 60)

    def test_just_a_hundred_and_twenty(self):
        # 96 copies; with one more pick c has 16, d 8: 120 of them.
        owns = (("a", PICKS), ("b", PICKS[:4]), ("c", PICKS[:3]), ("d", PICKS[:2]), ("e", PICKS[:2]))
        live = Live(PICKS, owns)
        self.assertEqual(len(oracle.copies(live.saying)), 96)
        self.assert_refused(InvalidSight, ("a", "u"), lambda: live.show("a", "u"))
        self.assertIsNone(live.show("b", "z"))
        self.assertEqual(len(oracle.copies(live.saying)), 112)
        self.assertIsNone(live.show("c", "z"))
        self.assertEqual(len(oracle.copies(live.saying)), 120)
        for name in "bcde":
            self.assert_refused(InvalidSight, (name, "x"), lambda: live.show(name=name, pick="x"))
        self.assertIsNone(live.hide("b", "u"))
        self.assertIsNone(live.show("d", "x"))
        self.assert_same([live.back() for _ in range(4)], ["show", "hide", "show", "show"])
        self.assert_same(live.saying, (PICKS, owns, ()))

    def test_without_clauses_at_first(self):
        for saying in SAYINGS:
            live = Live(*saying[:2])
            self.assert_same([live.saying, live.story, len(live)], [saying[:2] + ((),), (), 0])
            self.assert_refused(Nothing, None, live.back)
            self.assert_same(Live(owns=saying[1], picks=saying[0]).saying, saying[:2] + ((),))

    def test_the_clause_of_no_letters(self):
        live = Live((), ())
        self.assertIs(live.has_answers(), T)
        self.assertIsNone(live.put(()))
        self.assert_same([live.saying, live.story, live.has_answers(), live.many()], [((), (), ((),)), (("put", ()),), F, 0])
        self.assert_refused(InvalidClause, (), lambda: live.put(()))
        self.assertIsNone(live.take(()))
        self.assert_refused(InvalidClause, (), lambda: live.take(()))
        self.assert_same([live.back(), live.back(), live.saying], ["take", "put", ((), (), ())])

    def test_back_behind_what_was_refused(self):
        live = live_of(SMALL)
        self.assertIsNone(live.show("a", "y"))
        for error, value, deed in [(InvalidClause, SMALL[2][0], ("put", SMALL[2][0])), (InvalidSight, ("b", "x"), ("hide", "b", "x")),
                                   (InvalidName, "c", ("show", "c", "x")), (InvalidClause, (), ("take", ()))]:
            self.assert_refused(error, value, lambda: call(live, deed))
        self.assert_same([live.back(), live.back()], ["show", "put"])
        self.assert_same(live.saying, SMALL[:2] + (SMALL[2][:2],))
        self.assert_same(live.story, (("put", SMALL[2][0]), ("put", SMALL[2][1])))

    def test_a_deed_that_was_taken_back_stands_no_more(self):
        live = Live(*SMALL[:2])
        live.put(())
        self.assert_same(live.back(), "put")
        self.assert_refused(Nothing, None, live.back)
        live.hide("a", "x")
        live.show("a", "x")
        self.assert_same(live.story, (("hide", "a", "x"), ("show", "a", "x")))
        self.assert_same([live.back(), live.saying[1][0], live.back(), live.saying[1][0]], ["show", ("a", ()), "hide", ("a", ("x",))])

    def test_any_number_of_deeds(self):
        live = Live(*SMALL[:2])
        for _ in range(2000):
            live.put(SMALL[2][0])
            live.show("a", "y")
            live.take(SMALL[2][0])
            live.hide("a", "y")
        self.assertEqual(len(self.timed(lambda: live.story)), 8000)
        twin = self.timed(live.twin)
        for one in (live, twin):
            words = [one.back() for _ in range(8000)]
            self.assert_same(words, ["hide", "take", "show", "put"] * 2000)
            self.assert_same([one.saying, one.story], [SMALL[:2] + ((),), ()])

    def test_more_than_forty_clauses_are_kept_by_callers(self):
        owns = tuple((name, ()) for name in "abcdef")
        live = Live(("x",), owns)
        clauses = [((one, truth), (other, T)) for truth in (F, T) for one in "abcde" for other in "bcdef" if one < other]
        clauses += [((one, truth), ("x", T)) for truth in (F, T) for one in "abcdef"]
        for clause in clauses:
            self.assertIsNone(live.put(clause))
        self.assertEqual(len(live), 42)
        self.assertIsNone(live.show("a", "x"))
        self.assert_same(live.saying[2], tuple(sorted(clauses)))
        self.assert_same([live.back(), live.back(), len(live)], ["show", "put", 41])


class Looks(Timed):

    def check(self, live):
        saying = live.saying
        kind, told = self.timed(live.settle)
        self.assert_same((kind, told), settle(saying))
        if kind == "answers":
            self.assertIsNone(oracle.broken_at(saying, told))
        else:
            self.assertIs(checker.refutes(saying, told), T)
        self.assertIs(self.timed(live.has_answers), kind == "answers")
        self.assert_same(live.has_answers(), has_answers(saying))
        self.assert_same(self.timed(live.idle), idle(saying))
        copies = len(oracle.copies(saying))
        if copies <= 24:
            self.assert_same(self.timed(live.many), many(saying))
        if copies <= 16:
            self.assert_same(live.many(), oracle.Truths(saying).many())
        if copies <= 60 and len(saying[2]) <= 24:
            if kind == "answers":
                self.assert_refused(Holds, saying, live.core)
            else:
                found = self.timed(live.core)
                self.assert_same(found, core(saying))
                left = saying[:2] + (tuple(saying[2][index] for index in found),)
                self.assertIs(has_answers(left), F)
        return kind == "answers"

    def test_what_the_functions_tell(self):
        rng = random.Random(413)
        met = [0, 0]
        for saying in SAYINGS + tight_sayings(414, 40, 20, 22):
            live = live_of(saying)
            met[self.check(live)] += 1
            plain = Plain(*saying[:2])
            plain.clauses = set(saying[2])
            for _ in range(4):
                deed = drawn_deed(rng, plain)
                if plain.refused(deed) is None and deed[0] != "back":
                    plain.do(deed)
                    call(live, deed)
                    self.assert_same(live.saying, plain.saying())
                    met[self.check(live)] += 1
        self.assertGreater(min(met), 20)

    def test_looks_change_nothing(self):
        for saying in (SMALL, WITHOUT_ANSWERS, THREE):
            live = live_of(saying)
            for _ in range(2):
                self.check(live)
                self.assert_same([live.saying, live.story, len(live)],
                                 [saying, tuple(("put", clause) for clause in saying[2]), len(saying[2])])

    def test_lists_are_new_each_time(self):
        live = live_of((("x",), (("a", ("x",)),), ()))
        first = live.idle()
        self.assert_same(first, [("a", "x")])
        first.clear()
        self.assert_same(live.idle(), [("a", "x")])
        self.assertEqual(len([part for part in inner_parts(live.idle()) if type(part) is list]), 1)

    def test_the_greatest(self):
        for saying in great_sayings(415, 12) + parity_sayings()[:5]:
            live = live_of(saying)
            self.check(live)
            live.back()
            self.assert_same(live.saying, saying[:2] + (saying[2][:-1],))
            self.check(live)


class Twins(Timed):

    def test_a_twin_goes_its_own_way(self):
        live = live_of(SMALL)
        live.show("a", "y")
        twin = live.twin()
        self.assertIs(type(twin), Live)
        self.assertIsNot(twin, live)
        self.assert_same([twin.saying, twin.story], [live.saying, live.story])
        self.assertIs(twin == live, T)
        twin.put(())
        self.assert_same([len(twin), len(live), twin == live], [4, 3, F])
        live.hide("b", "y")
        self.assert_same(twin.saying[1], (("a", ("x", "y")), ("b", ("y",))))
        self.assert_same([twin.back(), twin.back(), twin.back()], ["put", "show", "put"])
        self.assert_same([live.back(), live.back()], ["hide", "show"])
        self.assert_same([live.saying, len(twin)], [SMALL, 2])
        second_one = twin.twin().twin()
        self.assert_same([second_one.back(), second_one.back()], ["put", "put"])
        self.assert_refused(Nothing, None, second_one.back)
        self.assertEqual(len(twin), 2)

    def test_equal_whatever_the_story(self):
        live = Live(*SMALL[:2])
        other = Live(*SMALL[:2])
        self.assertIs(live == other, T)
        self.assertIs(live != other, F)
        for clause in SMALL[2]:
            live.put(clause)
        self.assertIs(live == other, F)
        self.assertIs(live != other, T)
        for clause in reversed(SMALL[2]):
            other.put(clause)
        other.show("a", "y")
        self.assertIs(live == other, F)
        other.hide("a", "y")
        self.assertIs(live == other, T)
        self.assertNotEqual(live.story, other.story)

    def test_nothing_else_is_equal(self):
        for saying in (SMALL, ((), (), ())):
            live = live_of(saying)
            for value in strangers() + palette() + [saying, list(saying), live.story]:
                self.assertIs(live == value, F)
                self.assertIs(value == live, F)
                self.assertIs(live != value, T)


class Refused(Timed):

    def test_what_is_no_saying(self):
        for picks in strangers() + palette():
            for owns in ((), (("a", ()),), None, [[]], picks):
                if not oracle.saying((picks, owns, ())):
                    self.assert_refused(InvalidSaying, (picks, owns, ()), lambda: Live(picks, owns))
                    self.assert_refused(InvalidSaying, (picks, owns, ()), lambda: Live(owns=owns, picks=picks))
        for owns in strangers() + palette() + list(mutants(SMALL[1])) + list(mutants(THREE[1]))[::5]:
            for picks in (SMALL[0], THREE[0]):
                if not oracle.saying((picks, owns, ())):
                    self.assert_refused(InvalidSaying, (picks, owns, ()), lambda: Live(picks, owns))
        for value in near_sayings():
            if type(value) is tuple and len(value) == 3 and not oracle.saying(value[:2] + ((),)):
                self.assert_refused(InvalidSaying, value[:2] + ((),), lambda: Live(*value[:2]))
        same = [["a"]]
        with self.assertRaises(InvalidSaying) as caught:
            Live(same, same)
        self.assert_new(caught.exception.value, same)
        same[0].append("b")
        self.assert_same(caught.exception.value, ([["a"]], [["a"]], ()))

    def refuse(self, live, error, value, deed):
        """The deed is refused by position and by name, and changes nothing."""
        before = (live.saying, live.story)
        names = {"put": ["clause"], "take": ["clause"]}.get(deed[0], ["name", "pick"])
        self.assert_refused(error, value, lambda: call(live, deed))
        self.assert_refused(error, value, lambda: getattr(live, deed[0])(**dict(zip(names, deed[1:]))))
        self.assert_same((live.saying, live.story), before)

    def test_clauses(self):
        for saying in (SMALL, NO_OWNS, NO_PICKS):
            live = live_of(saying)
            near = [[list(one) for one in saying[2][0]], (("zz", T),), (("a", 1),), ((saying[2][0][0][0], 1),),
                    saying[2][0][::-1], saying[2][0] + saying[2][0]]
            for wrong in strangers() + palette() + list(mutants(saying[2][0])) + near:
                is_one = oracle.clause(saying, wrong)
                if not is_one or wrong in saying[2]:
                    self.refuse(live, InvalidClause, wrong, ("put", wrong))
                if not is_one or wrong not in saying[2]:
                    self.refuse(live, InvalidClause, wrong, ("take", wrong))

    def test_truths_that_are_one(self):
        live = Live((), (("a", ()),))
        live.put((("a", T),))
        for word in ("put", "take"):
            self.refuse(live, InvalidClause, (("a", 1),), (word, (("a", 1),)))
            self.refuse(live, InvalidClause, (["a", T],), (word, (["a", T],)))

    def test_names_and_picks(self):
        live = live_of(SMALL)
        for word in ("show", "hide"):
            for wrong in strangers() + palette() + ["x", "y", "c", ["a"], ("a",), {"a": 1}]:
                if not oracle.own(SMALL, wrong):
                    for pick in ("x", "a", None, [], wrong):
                        self.refuse(live, InvalidName, wrong, (word, wrong, pick))
                if type(wrong) is not str or wrong not in SMALL[0]:
                    for name in "ab":
                        self.refuse(live, InvalidName, wrong, (word, name, wrong))
        for word, name, pick in [("show", "a", "x"), ("show", "b", "y"), ("hide", "a", "y"), ("hide", "b", "x")]:
            self.refuse(live, InvalidSight, (name, pick), (word, name, pick))

    def test_lists_are_new_in_the_error(self):
        live = live_of(SMALL)
        inner = [1, [2]]
        wrong = [inner, ([inner], (inner, [[inner]])), inner]
        for deed in [("put", wrong), ("take", wrong), ("show", wrong, "x"), ("hide", wrong, "x"), ("show", "a", wrong),
                     ("hide", "a", wrong)]:
            with self.assertRaises((InvalidClause, InvalidName)) as caught:
                call(live, deed)
            value = caught.exception.value
            self.assert_same(value, wrong)
            self.assert_new(value, wrong)
            value[0][1].append(3)
            self.assert_same([value[2], inner], [[1, [2]], [1, [2]]])

    def test_picks_and_owns_are_not_kept(self):
        """What a live saying tells holds no list, whatever is done to it."""
        live = live_of(SMALL)
        for part in inner_parts((live.saying, live.story)):
            self.assertIs(type(part), tuple)
