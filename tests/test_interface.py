"""The section "The interface": files, names, arguments."""

import inspect
import os

import onlyseen
from onlyseen import (
    answers, cores, desk, easy, errors, live, middles, nets, reading, refutations, sayings, settling, shorter, sights,
    texts,
)
from tests.guard import Guarded

PARAMETERS = {
    sayings: {
        "is_saying": ["value"],
        "is_clause": ["saying", "value"],
        "is_play": ["saying", "value"],
        "is_answers": ["saying", "value"],
        "plays": ["saying"],
        "seen": ["saying", "name", "play"],
        "copies": ["saying"],
        "letters_at": ["saying", "clause", "play"],
    },
    answers: {
        "holds": ["saying", "answers"],
        "broken_at": ["saying", "answers"],
        "value_of": ["saying", "answers", "name", "play"],
        "answers_with": ["saying", "rows"],
        "many": ["saying"],
        "nth": ["saying", "number"],
        "place": ["saying", "answers"],
        "fixed": ["saying"],
    },
    refutations: {
        "tells": ["saying", "steps"],
        "refutes": ["saying", "value"],
        "trimmed": ["saying", "refutation"],
        "used": ["saying", "refutation"],
    },
    settling: {
        "settle": ["saying"],
        "has_answers": ["saying"],
        "first_answers": ["saying"],
        "follows": ["saying", "clause"],
        "against": ["saying", "clause"],
    },
    cores: {
        "is_core": ["saying", "indexes"],
        "core": ["saying"],
        "least_core": ["saying"],
        "needed_clauses": ["saying"],
        "largest_kept": ["saying"],
    },
    sights: {
        "reached": ["saying", "pick", "truth"],
        "hangs": ["saying", "name", "pick"],
        "idle": ["saying"],
        "idle_holds": ["saying", "name", "pick", "value"],
        "idle_paper": ["saying", "name", "pick"],
        "without_sight": ["saying", "name", "pick"],
        "with_sight": ["saying", "name", "pick"],
        "thinned": ["saying"],
        "could_see": ["saying"],
        "least_sights": ["saying"],
    },
    easy: {
        "is_plain": ["saying"],
        "is_twos": ["saying"],
        "least_true": ["saying"],
        "by_chains": ["saying"],
        "chains": ["saying"],
        "chains_hold": ["saying", "value"],
        "is_sums": ["value"],
        "sums_answers": ["row"],
        "sums_hold": ["row", "answers"],
        "sums_paper": ["row"],
        "sums_paper_holds": ["row", "value"],
    },
    nets: {
        "is_net": ["value"],
        "outs_at": ["net", "tables", "play"],
        "net_saying": ["net", "goal"],
        "fill": ["net", "goal"],
        "fills_many": ["net", "goal"],
    },
    middles: {
        "middle": ["saying", "first"],
        "is_middle": ["saying", "first", "value"],
        "is_so": ["saying", "marked", "answers"],
    },
    shorter: {
        "cuts": ["saying"],
        "after_cut": ["saying", "cut"],
        "shorter": ["saying"],
        "answers_back": ["saying", "cuts", "answers"],
        "refutation_back": ["saying", "cuts", "refutation"],
    },
    texts: {
        "show_clause": ["clause"],
        "show_saying": ["saying"],
        "show_answers": ["saying", "answers"],
        "show_steps": ["saying", "refutation"],
    },
    reading: {
        "read_saying": ["text"],
        "read_clause": ["text"],
    },
}

METHODS = {
    live.Live: {
        "__init__": ["self", "picks", "owns"],
        "put": ["self", "clause"],
        "take": ["self", "clause"],
        "show": ["self", "name", "pick"],
        "hide": ["self", "name", "pick"],
        "back": ["self"],
        "has_answers": ["self"],
        "settle": ["self"],
        "many": ["self"],
        "core": ["self"],
        "idle": ["self"],
        "twin": ["self"],
        "__len__": ["self"],
        "__eq__": ["self", "other"],
    },
    desk.Desk: {
        "__init__": ["self"],
        "execute": ["self", "line"],
    },
}


class Interface(Guarded):

    def test_each_function_stands_in_its_file_with_its_parameters(self):
        for module, functions in PARAMETERS.items():
            for name, parameters in functions.items():
                function = getattr(module, name)
                self.assertTrue(inspect.isfunction(function), name)
                self.assertEqual(function.__module__, module.__name__, name)
                self.assertEqual(function.__name__, name)
                self.assertEqual(inspect.getfile(function), module.__file__, name)
                self.assertEqual(list(inspect.signature(function).parameters), parameters, name)

    def test_each_parameter_is_passed_by_position_or_by_name_and_none_is_left_out(self):
        for module, functions in PARAMETERS.items():
            for name in functions:
                for parameter in inspect.signature(getattr(module, name)).parameters.values():
                    self.assertEqual(parameter.kind, parameter.POSITIONAL_OR_KEYWORD, name)
                    self.assertIs(parameter.default, parameter.empty, name)

    def test_each_class_stands_in_its_file_with_its_methods(self):
        for kind, module in ((live.Live, live), (desk.Desk, desk)):
            self.assertEqual((kind.__module__, kind.__bases__), (module.__name__, (object,)))
            self.assertEqual(inspect.getfile(kind), module.__file__)
            for name, parameters in METHODS[kind].items():
                method = vars(kind)[name]
                self.assertTrue(inspect.isfunction(method), name)
                self.assertEqual(list(inspect.signature(method).parameters), parameters, name)
                for parameter in inspect.signature(method).parameters.values():
                    self.assertEqual(parameter.kind, parameter.POSITIONAL_OR_KEYWORD, name)
                    self.assertIs(parameter.default, parameter.empty, name)

    def test_a_live_saying_has_its_properties_from_the_first(self):
        for name in ("saying", "story"):
            self.assertIsInstance(vars(live.Live)[name], property)
            self.assertTrue(hasattr(live.Live((), ()), name))

    def test_the_package_is_a_folder_at_the_top_with_the_tests_beside_it(self):
        top = os.path.dirname(os.path.dirname(os.path.abspath(__file__)))
        self.assertEqual(os.path.abspath(onlyseen.__file__), os.path.join(top, "onlyseen", "__init__.py"))
        for module in [errors, live, desk] + list(PARAMETERS):
            self.assertEqual(os.path.dirname(os.path.abspath(module.__file__)), os.path.join(top, "onlyseen"))
