"""Points 2 and 3: which error is raised, of what, in which order, and what stands in it."""

import itertools

from onlyseen.answers import answers_with, broken_at, fixed, holds, many, nth, place, value_of
from onlyseen.cores import core, is_core, largest_kept, least_core, needed_clauses
from onlyseen.errors import (
    InvalidAnswers, InvalidClause, InvalidName, InvalidNumber, InvalidPlay, InvalidRefutation, InvalidSaying, InvalidStep,
)
from onlyseen.refutations import refutes, tells, trimmed, used
from onlyseen.sayings import copies, is_answers, is_clause, is_play, letters_at, plays, seen
from onlyseen.settling import against, first_answers, follows, has_answers, settle
from onlyseen.sights import (
    could_see, hangs, idle, idle_holds, idle_paper, least_sights, reached, thinned, with_sight, without_sight,
)
from tests import checker, oracle
from tests.guard import Guarded, same
from tests.samples import (
    EMPTY, NO_OWNS, NO_PICKS, SMALL, THREE, WITHOUT_ANSWERS, largest_sayings, mutants, nested, palette, strangers,
)
from tests.wrongs import near_sayings, wrong_sayings

F, T = False, True

STEPS = (("play", 0, (F, T)), ("play", 1, (T, T)), ("join", 1, 0, ("a", (T,))))

# What each function is passed, by its parameters, where all is right.
RIGHT = {"saying": SMALL, "value": (), "clause": (("a", T), ("x", F)), "play": (T, F), "answers": ((F, T), (T, T)),
         "name": "b", "rows": [F, T, T, F], "number": 1, "steps": STEPS, "refutation": STEPS, "indexes": (0, 1),
         "pick": "y", "truth": T}

# These want a saying without answers, or steps of it.
BARRED_ONES = (tells, refutes, trimmed, used, core, least_core, is_core)

CALLS = [
    (is_clause, ["saying", "value"]), (is_play, ["saying", "value"]), (is_answers, ["saying", "value"]),
    (plays, ["saying"]), (seen, ["saying", "name", "play"]), (copies, ["saying"]),
    (letters_at, ["saying", "clause", "play"]), (holds, ["saying", "answers"]), (broken_at, ["saying", "answers"]),
    (value_of, ["saying", "answers", "name", "play"]), (answers_with, ["saying", "rows"]), (many, ["saying"]),
    (nth, ["saying", "number"]), (place, ["saying", "answers"]), (fixed, ["saying"]),
    (tells, ["saying", "steps"]), (refutes, ["saying", "value"]), (trimmed, ["saying", "refutation"]),
    (used, ["saying", "refutation"]), (settle, ["saying"]), (has_answers, ["saying"]), (first_answers, ["saying"]),
    (follows, ["saying", "clause"]), (against, ["saying", "clause"]), (is_core, ["saying", "indexes"]),
    (core, ["saying"]), (least_core, ["saying"]), (needed_clauses, ["saying"]), (largest_kept, ["saying"]),
    (reached, ["saying", "pick", "truth"]), (hangs, ["saying", "name", "pick"]), (idle, ["saying"]),
    (idle_holds, ["saying", "name", "pick", "value"]), (idle_paper, ["saying", "name", "pick"]),
    (without_sight, ["saying", "name", "pick"]), (with_sight, ["saying", "name", "pick"]), (thinned, ["saying"]),
    (could_see, ["saying"]), (least_sights, ["saying"]),
]

ERRORS = {"saying": InvalidSaying, "clause": InvalidClause, "play": InvalidPlay, "answers": InvalidAnswers,
          "name": InvalidName, "rows": InvalidAnswers, "number": InvalidNumber, "steps": InvalidStep,
          "refutation": InvalidRefutation, "indexes": InvalidNumber, "pick": InvalidName}


def fits_pick(saying, value):
    return type(value) is str and value in saying[0]


def fits_indexes(saying, value):
    return any(same(value, right) for right in [(), (0,), (1,), (0, 1)])


def fits_steps(saying, value):
    """Tuples are refused otherwise, with the index of a step."""
    return type(value) is tuple


FITS = {"clause": oracle.clause, "play": oracle.play, "answers": oracle.answers, "name": oracle.own,
        "rows": oracle.rows, "steps": fits_steps, "refutation": checker.refutes, "indexes": fits_indexes,
        "pick": fits_pick}


def right_of(function, parameters):
    found = {name: list(RIGHT[name]) if name == "rows" else RIGHT[name] for name in parameters}
    if function in BARRED_ONES:
        found["saying"] = WITHOUT_ANSWERS
    return found


def wrong_parts(parameter, saying, values):
    return [value for value in values if not FITS[parameter](saying, value)]


def wrong_ones(parameter):
    """Objects that are refused at a parameter beside SMALL, or WITHOUT_ANSWERS."""
    if parameter == "saying":
        return wrong_sayings(strangers() + near_sayings())
    if parameter == "number":
        return [-1, -2, -10 ** 20]
    saying = WITHOUT_ANSWERS if parameter in ("steps", "refutation", "indexes") else SMALL
    return wrong_parts(parameter, saying, strangers() + palette() + list(mutants(RIGHT[parameter])) + near(parameter))


def near(parameter):
    """Objects that are nearly what is wanted at a parameter beside SMALL."""
    return {
        "clause": [[["a", T]], [("a", T)], (("a", 1),), (("c", T),), (("b", T), ("a", T)), (("a", F), ("a", T))],
        "play": [[T, F], (1, F), (T, 0), (T,), (T, F, T), "TF", ([T], [F])],
        "answers": [[[F, T], [T, T]], ((F, T),), ((F, T), (T, T), ()), ((F, T), (T, 1)), ((F, T), [T, T]), (F, T, T, T)],
        "name": ["x", "y", "c", "aa", "", "A", ["a"], ("a",), [["a"], "b"], b"a", {"a": "a"}, 0, None],
        "pick": ["a", "b", "c", "xx", "", "X", ["x"], ("x",), [["x"], "y"], b"x", {"x": "x"}, 0, None],
        "indexes": [[0], [[0], 1], (1, 0), (0, 0), (2,), (-1,), (0, 2), (F, T), (T,), 0, "0", ([0],), {0: 0}, range(1)],
        "steps": [list(STEPS), [[]], [["play"]], {"a": STEPS}, "play", iter(STEPS), 0],
        "refutation": [list(STEPS), STEPS[:2], STEPS[:1], (), STEPS + STEPS[:1], (list(STEPS[0]),) + STEPS[1:],
                       STEPS[:2] + (("join", 1, 0, ["a", [T]]),), ([STEPS],), (STEPS,), {"a": STEPS}, "play", 0],
        "rows": [(F, T, T, F), [F, T, T], [F, T, T, F, F], [F, T, T, 0], [1, T, T, F], [[F, T], [T, F]], "", {}],
    }[parameter]


class Refusals(Guarded):

    def refuse(self, function, parameters, changed, error, wrong):
        passed = right_of(function, parameters)
        passed.update(changed)
        kept = {name: passed[name] for name in parameters}
        self.assert_refused(error, wrong, lambda: function(*[kept[name] for name in parameters]))
        self.assert_refused(error, wrong, lambda: function(**kept))
        self.assert_refused(error, wrong, lambda: function(**dict(reversed(list(kept.items())))))

    def test_what_is_right_is_not_refused(self):
        for function, parameters in CALLS:
            function(**right_of(function, parameters))

    def test_each_parameter_alone(self):
        for function, parameters in CALLS:
            for parameter in parameters:
                if parameter in ERRORS:
                    for wrong in wrong_ones(parameter):
                        self.refuse(function, parameters, {parameter: wrong}, ERRORS[parameter], wrong)

    def test_with_faulty_ones_behind_it(self):
        for function, parameters in CALLS:
            for at, parameter in enumerate(parameters[:-1]):
                for wrong in wrong_ones(parameter)[::3]:
                    for other in (None, [[]], (1,), -1, wrong):
                        behind = {name: other for name in parameters[at + 1:]}
                        behind[parameter] = wrong
                        self.refuse(function, parameters, behind, ERRORS[parameter], wrong)

    def test_each_parameter_ahead_of_each_one_behind_it(self):
        for function, parameters in CALLS:
            for first, second in itertools.combinations(parameters, 2):
                if second in ERRORS:
                    for wrong, other in zip(wrong_ones(first)[::7], itertools.cycle(wrong_ones(second)[::5])):
                        self.refuse(function, parameters, {first: wrong, second: other}, ERRORS[first], wrong)

    def test_a_saying_with_one_change_at_any_depth(self):
        for wrong in wrong_sayings(mutants(THREE))[::5]:
            for function, parameters in CALLS[3:6] + CALLS[11::2]:
                self.refuse(function, parameters, {"saying": wrong}, InvalidSaying, wrong)

    def test_any_object_is_no_value_and_raises_nothing(self):
        for function, parameters in CALLS:
            if parameters[-1] == "value":
                for value in strangers():
                    self.assertIn(function(**{**right_of(function, parameters), "value": value}), (True, False))

    def test_beside_sayings_with_no_picks_or_no_owns(self):
        for saying, owns in [(EMPTY, []), (NO_OWNS, []), (NO_PICKS, ["a", "b"])]:
            for wrong in wrong_parts("name", saying, strangers() + ["a", "x", ["a"]]):
                self.assert_refused(InvalidName, wrong, lambda: seen(saying, wrong, ()))
            for wrong in wrong_parts("play", saying, strangers() + [(T,), [T]]):
                self.assert_refused(InvalidPlay, wrong, lambda: letters_at(saying, (), wrong))
                for name in owns:
                    self.assert_refused(InvalidPlay, wrong, lambda: seen(saying, name, wrong))
            for wrong in wrong_parts("answers", saying, strangers() + [((),), [[]]]):
                for function in (holds, broken_at, place):
                    self.assert_refused(InvalidAnswers, wrong, lambda: function(saying, wrong))
            for wrong in wrong_parts("rows", saying, strangers() + [[T], [[]]]):
                self.assert_refused(InvalidAnswers, wrong, lambda: answers_with(saying, wrong))

    def test_beside_the_largest_sayings(self):
        for saying in largest_sayings()[::2]:
            rows = [F] * 120
            answers = oracle.answers_with(saying, rows)
            for wrong in (rows[1:], rows + [F], tuple(rows), rows[:-1] + [0], rows[:-1] + [[F]]):
                self.assert_refused(InvalidAnswers, wrong, lambda: answers_with(saying, wrong))
            for wrong in (answers[1:], answers[:-1] + (answers[-1][1:],), list(answers), answers[:-1] + (rows,)):
                for function in (holds, broken_at):
                    self.assert_refused(InvalidAnswers, wrong, lambda: function(saying, wrong))
            for wrong in ((F,) * 5, (F,) * 7, [F] * 6, (F,) * 5 + (0,)):
                self.assert_refused(InvalidPlay, wrong, lambda: letters_at(saying, saying[2][0], wrong))
                self.assert_refused(InvalidPlay, wrong, lambda: value_of(saying, answers, "a", wrong))
            for wrong in (list(saying[2][0]), saying[2][0] + (("zzz", T),), saying[2][0][::-1]):
                self.assert_refused(InvalidClause, wrong, lambda: letters_at(saying, wrong, (F,) * 6))


class NewInErrors(Guarded):

    def caught(self, wrong):
        """The values of the errors by which each function refuses an object, wherever it is refused."""
        found = []
        for function, parameters in CALLS:
            for parameter in parameters:
                # A tuple of steps is refused by the index of the first that is none.
                if parameter not in ("value", "truth", "number") and (parameter != "steps" or type(wrong) is list):
                    passed = right_of(function, parameters)
                    passed[parameter] = wrong
                    with self.assertRaises(ERRORS[parameter]) as caught:
                        function(**passed)
                    found.append(caught.exception.value)
        self.assertGreater(len(found), 60)
        return found

    def test_lists_at_every_depth_are_new(self):
        inner = [1, [2]]
        wrong = [inner, ([inner], (inner, [[inner]])), inner]
        for value in self.caught(wrong):
            self.assert_same(value, [[1, [2]], ([[1, [2]]], ([1, [2]], [[[1, [2]]]])), [1, [2]]])
            self.assert_new(value, wrong)
            value[0][1].append(3)
            self.assert_same(value[2], [1, [2]])
        self.assert_same(inner, [1, [2]])

    def test_what_is_done_later_does_not_change_an_error(self):
        wrong = ([[T]], [["a"], []])
        values = self.caught(wrong)
        wrong[0][0].append(F)
        wrong[1].clear()
        for value in values:
            self.assert_same(value, ([[T]], [["a"], []]))

    def test_tuples_at_every_depth_are_new(self):
        wrong = ((("a",), (("b",), [("c",)])), "d")
        for value in self.caught(wrong):
            self.assert_same(value, wrong)
            self.assert_new(value, wrong)

    def test_two_errors_share_no_list(self):
        wrong = [[[]], ()]
        values = self.caught(wrong)
        lists = [id(part) for value in values for part in (value, value[0], value[0][0])]
        self.assertEqual(len(lists), len(set(lists)))

    def test_a_hundred_deep(self):
        for kind in (list, tuple):
            wrong = nested(100, kind)
            for value in self.caught(wrong):
                self.assert_same(value, wrong)
                self.assert_new(value, wrong)

    def test_dicts_and_sets_are_equal(self):
        wrong = [{"a": [1, (2,)], ("b", 1): {"c": [[]]}}, {(1, 2), "x"}, frozenset([("y",)])]
        for value in self.caught(wrong):
            self.assert_same(value, wrong)
            self.assert_new(value, wrong)
        self.assert_same(wrong[0], {"a": [1, (2,)], ("b", 1): {"c": [[]]}})
