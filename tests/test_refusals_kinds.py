"""Points 2 and 3 of the functions of points 32 to 35: which error is raised, of what, in which order."""

import itertools

from onlyseen.easy import (
    by_chains, chains, chains_hold, is_plain, is_sums, is_twos, least_true, sums_answers, sums_hold, sums_paper,
    sums_paper_holds,
)
from onlyseen.errors import (
    Holds, InvalidAnswers, InvalidCut, InvalidGoal, InvalidMarked, InvalidNet, InvalidNumber, InvalidPlay,
    InvalidRefutation, InvalidSaying, InvalidSums, InvalidTables, NotPlain, NotTwos,
)
from onlyseen.middles import is_middle, is_so, middle
from onlyseen.nets import fill, fills_many, is_net, net_saying, outs_at
from onlyseen.shorter import after_cut, answers_back, cuts, refutation_back, shorter
from tests import checker, oracle, second
from tests.guard import Guarded, same
from tests.samples import SMALL, mutants, nested, palette, strangers
from tests.test_nets import wrong_nets
from tests.test_sums import wrong_rows
from tests.wrongs import near_sayings

F, T = False, True

TWOS = (("x",), (("a", ()),), ((("a", F), ("x", T)), (("a", T), ("x", F))))
ROW = (("x", "y"), (("a", ("x",)), ("b", ("y",))), ((("a", "b", "x", "y"), T),))
NET = (("x", "y"), (("d", "blank", ("x",)), ("b", "blank", ("y",)), ("c", "unlike", ("d", "b"))), ("c",))
GOAL = (("p", "q"), (("n", "both", ("p", "q")),), ("n",))
CUT = ("reduce", (("a", F), ("x", T)), "x")
LEFT = (("x",), (("a", ()),), ((("a", F),), (("a", T), ("x", F))))
STEPS = (("play", 0, (F,)), ("play", 1, (T,)), ("join", 1, 0, ("a", ())))

# What each function is passed, by its parameters, where all is right.
RIGHT = {"saying": TWOS, "value": (), "row": ROW, "answers": ((F, T), (T, F)), "net": NET, "goal": GOAL,
         "tables": ((F, T), (T, T)), "play": (T, F), "first": (0,), "marked": ("letter", "a", (), F), "cut": CUT,
         "cuts": [CUT], "refutation": STEPS}

CALLS = [
    (is_plain, ["saying"]), (is_twos, ["saying"]), (least_true, ["saying"]), (by_chains, ["saying"]),
    (chains, ["saying"]), (chains_hold, ["saying", "value"]), (sums_answers, ["row"]), (sums_hold, ["row", "answers"]),
    (sums_paper, ["row"]), (sums_paper_holds, ["row", "value"]), (outs_at, ["net", "tables", "play"]),
    (net_saying, ["net", "goal"]), (fill, ["net", "goal"]), (fills_many, ["net", "goal"]), (middle, ["saying", "first"]),
    (is_middle, ["saying", "first", "value"]), (is_so, ["saying", "marked", "answers"]), (cuts, ["saying"]),
    (after_cut, ["saying", "cut"]), (shorter, ["saying"]), (answers_back, ["saying", "cuts", "answers"]),
    (refutation_back, ["saying", "cuts", "refutation"]),
]

ERRORS = {"saying": InvalidSaying, "row": InvalidSums, "answers": InvalidAnswers, "net": InvalidNet, "goal": InvalidGoal,
          "tables": InvalidTables, "play": InvalidPlay, "first": InvalidNumber, "marked": InvalidMarked,
          "cut": InvalidCut, "cuts": InvalidCut, "refutation": InvalidRefutation}


def right_of(function, parameters):
    found = {name: list(RIGHT[name]) if name == "cuts" else RIGHT[name] for name in parameters}
    if function is is_so:
        found["answers"] = ((T,),)
    if function is answers_back:
        found.update(saying=SMALL, cuts=[])
    return found


def fits(function, parameter, value):
    """Whether an object is right for a parameter, the others being right."""
    if parameter == "saying":
        return oracle.saying(value)
    if parameter == "row":
        return second.sums(value)
    if parameter == "answers":
        of = {sums_hold: ROW[:2] + ((),), is_so: TWOS, answers_back: SMALL}[function]
        return oracle.answers(of, value)
    return {
        "net": second.net, "goal": lambda one: second.goal(NET, one), "tables": lambda one: second.tables(NET, one),
        "play": lambda one: second.inputs_at(NET, one), "marked": lambda one: second.marked(TWOS, one),
        "first": lambda one: any(same(one, right) for right in [(), (0,), (1,), (0, 1)]),
        "cut": lambda one: any(same(one, right) for right in second.cuts(TWOS)),
        "cuts": lambda one: False, "refutation": lambda one: checker.refutes(LEFT, one),
    }[parameter](value)


def near(parameter):
    """Objects that are nearly what is wanted at a parameter."""
    return {
        "saying": near_sayings(), "row": wrong_rows(), "net": wrong_nets(), "goal": wrong_nets() + [NET],
        "answers": [[[T]], ([T],), ((1,),), ((T,), ()), ((F, T),), ((F, T), [T, F]), ((F, T), (T, 0)), [(F, T), (T, F)]],
        "tables": [[[F, T], [T, T]], ((F, T),), ((F, T), (T, T), ()), ((F, T), (T, 1)), ((F, T), [T, T]), (F, T, T, T)],
        "play": [[T, F], (1, F), (T,), (T, F, T), ([T], [F])], "first": [[0], (1, 0), (0, 0), (2,), (-1,), (F,), 0],
        "marked": [["letter", "a", (), F], ("letter", "a", [], F), ("letter", "b", (), F), ("both", ["true"], ("true",))],
        "cut": [list(CUT), ("reduce", [["a", F]], "x"), ("swallow", TWOS[2][0]), ("pure", "a", T), ("pure", "a", 1)],
        "refutation": [list(STEPS), STEPS[:2], (list(STEPS[0]),) + STEPS[1:], (("play", 0, (T,)),) + STEPS[1:], ([[]],)],
    }[parameter]


def wrong_ones(function, parameter):
    """Objects that are refused at a parameter of a function, the others being right."""
    right = right_of(function, [parameter])[parameter]
    values = strangers() + palette() + list(mutants(right)) + near(parameter)
    return [value for value in values if not fits(function, parameter, value)]


class Refusals(Guarded):

    def refuse(self, function, parameters, changed, error, wrong):
        passed = right_of(function, parameters)
        passed.update(changed)
        kept = {name: passed[name] for name in parameters}
        self.assert_refused(error, wrong, lambda: function(*[kept[name] for name in parameters]))
        self.assert_refused(error, wrong, lambda: function(**kept))
        self.assert_refused(error, wrong, lambda: function(**dict(reversed(list(kept.items())))))

    def test_what_is_right_is_not_refused(self):
        for function, parameters in CALLS:
            if function is not answers_back:
                function(**right_of(function, parameters))
        self.assert_same(answers_back(SMALL, [], ((F, T), (F, F))), ((F, T), (F, F)))

    def test_each_parameter_alone(self):
        for function, parameters in CALLS:
            for parameter in parameters:
                if parameter in ERRORS and parameter != "cuts":
                    for wrong in wrong_ones(function, parameter):
                        self.refuse(function, parameters, {parameter: wrong}, ERRORS[parameter], wrong)

    def test_a_cut_of_a_list_alone(self):
        for function, parameters in CALLS[-2:]:
            for wrong in strangers() + [list(CUT), ("swallow", ()), ("pure", "a", 1)]:
                for row, behind in [([wrong], {}), ([wrong, [], 1], {}), ([wrong], {parameters[-1]: [None]})]:
                    self.refuse(function, parameters, dict(behind, cuts=row), InvalidCut, wrong)

    def test_with_faulty_ones_behind_it(self):
        for function, parameters in CALLS:
            for at, parameter in enumerate(parameters[:-1]):
                if parameter != "cuts":
                    for wrong in wrong_ones(function, parameter)[::3]:
                        for other in (None, [[]], (1,), -1, wrong):
                            behind = {name: other for name in parameters[at + 1:]}
                            behind[parameter] = wrong
                            self.refuse(function, parameters, behind, ERRORS[parameter], wrong)

    def test_each_parameter_ahead_of_each_one_behind_it(self):
        for function, parameters in CALLS:
            for first, later in itertools.combinations(parameters, 2):
                if later in ERRORS and "cuts" not in (first, later):
                    wrongs = zip(wrong_ones(function, first)[::7], itertools.cycle(wrong_ones(function, later)[::5]))
                    for wrong, other in wrongs:
                        self.refuse(function, parameters, {first: wrong, later: other}, ERRORS[first], wrong)

    def test_any_object_is_no_value_and_raises_nothing(self):
        for function, parameters in CALLS + [(is_sums, ["value"]), (is_net, ["value"])]:
            if parameters[-1] == "value":
                for value in strangers() + palette():
                    self.assertIs(function(**{**right_of(function, parameters), "value": value}), F)

    def test_kinds_of_sayings_behind_the_saying(self):
        """What is no saying is no plain one, no twos, and has no halves."""
        other = ((), (("a", ()), ("b", ())), ((("a", T), ("b", T)),))
        self.assert_refused(NotPlain, other, lambda: least_true(saying=other))
        three = ((), tuple((name, ()) for name in "abc"), ((("a", F), ("b", T), ("c", F)),))
        for function in (by_chains, chains):
            self.assert_refused(NotTwos, three, lambda: function(saying=three))
        for wrong in (None, -1, [[0]], (5,)):
            self.assert_refused(Holds, SMALL, lambda: middle(SMALL, wrong))
            self.assert_refused(InvalidNumber, wrong, lambda: is_middle(SMALL, wrong, None))


class NewInErrors(Guarded):

    def caught(self, wrong):
        """The values of the errors by which each function refuses an object, wherever it is refused."""
        found = []
        for function, parameters in CALLS:
            for parameter in parameters:
                if parameter != "value":
                    passed = right_of(function, parameters)
                    passed[parameter] = [wrong] if parameter == "cuts" else wrong
                    with self.assertRaises(ERRORS[parameter]) as caught:
                        function(**passed)
                    found.append(caught.exception.value)
        self.assertGreater(len(found), 30)
        return found

    def test_lists_at_every_depth_are_new(self):
        inner = [1, [2]]
        for kind in (list, tuple):
            wrong = kind([inner, ([inner], (inner, [[inner]])), inner])
            for value in self.caught(wrong):
                self.assert_same(value, kind([[1, [2]], ([[1, [2]]], ([1, [2]], [[[1, [2]]]])), [1, [2]]]))
                self.assert_new(value, wrong)
                value[0][1].append(3)
                self.assert_same(value[2], [1, [2]])
        self.assert_same(inner, [1, [2]])

    def test_what_is_done_later_does_not_change_an_error(self):
        wrong = ([[T]], [["a"], []])
        values = self.caught(wrong)
        wrong[0][0].append(F)
        wrong[1].clear()
        for value in values:
            self.assert_same(value, ([[T]], [["a"], []]))

    def test_two_errors_share_no_list(self):
        values = self.caught([[[]], ()])
        lists = [id(part) for value in values for part in (value, value[0], value[0][0])]
        self.assertEqual(len(lists), len(set(lists)))

    def test_a_hundred_deep_and_what_is_in_dicts_and_sets(self):
        kept = [{"a": [1, (2,)], ("b", 1): {"c": [[]]}}, {(1, 2), "x"}, frozenset([("y",)])]
        for wrong in (nested(100, list), nested(100, tuple), kept):
            for value in self.caught(wrong):
                self.assert_same(value, wrong)
                self.assert_new(value, wrong)
        self.assert_same(kept[0], {"a": [1, (2,)], ("b", 1): {"c": [[]]}})

    def test_sayings_with_answers_and_of_other_kinds_are_new_in_the_error(self):
        """A saying holds no list; its tuples are built anew, as those of what is refused."""
        for saying, error, call in [
            (SMALL, Holds, lambda saying: middle(saying, ())),
            (((), (("a", ()), ("b", ())), ((("a", T), ("b", T)),)), NotPlain, least_true),
            (((), (("a", ()),), ((),)), NotTwos, chains), (((), (("a", ()),), ((),)), NotTwos, by_chains),
        ]:
            with self.assertRaises(error) as caught:
                call(saying)
            self.assert_same(caught.exception.value, saying)
            self.assert_new(caught.exception.value, saying)
