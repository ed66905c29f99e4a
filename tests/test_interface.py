"""The section "The interface": files, names, arguments."""

import inspect
import os

import onlyseen
from onlyseen import (
    answers, cores, easy, errors, middles, nets, refutations, sayings, settling, shorter, sights,
)
from tests.guard import Guarded

PARAMETERS = {
    sayings: {
        "is_saying": ["value"],
        "is_clause": ["saying", "value"],
        "is_play": ["saying", "value"],
        "is_answers": ["saying", "value"],
        "plays": ["saying"],
        "seen": ["saying", "name", "play"],
        "copies": ["saying"],
        "letters_at": ["saying", "clause", "play"],
    },
    answers: {
        "holds": ["saying", "answers"],
        "broken_at": ["saying", "answers"],
        "value_of": ["saying", "answers", "name", "play"],
        "answers_with": ["saying", "rows"],
        "many": ["saying"],
        "nth": ["saying", "number"],
        "place": ["saying", "answers"],
        "fixed": ["saying"],
    },
    refutations: {
        "tells": ["saying", "steps"],
        "refutes": ["saying", "value"],
        "trimmed": ["saying", "refutation"],
        "used": ["saying", "refutation"],
    },
    settling: {
        "settle": ["saying"],
        "has_answers": ["saying"],
        "first_answers": ["saying"],
        "follows": ["saying", "clause"],
        "against": ["saying", "clause"],
    },
    cores: {
        "is_core": ["saying", "indexes"],
        "core": ["saying"],
        "least_core": ["saying"],
        "needed_clauses": ["saying"],
        "largest_kept": ["saying"],
    },
    sights: {
        "reached": ["saying", "pick", "truth"],
        "hangs": ["saying", "name", "pick"],
        "idle": ["saying"],
        "idle_holds": ["saying", "name", "pick", "value"],
        "idle_paper": ["saying", "name", "pick"],
        "without_sight": ["saying", "name", "pick"],
        "with_sight": ["saying", "name", "pick"],
        "thinned": ["saying"],
        "could_see": ["saying"],
        "least_sights": ["saying"],
    },
    easy: {
        "is_plain": ["saying"],
        "is_twos": ["saying"],
        "least_true": ["saying"],
        "by_chains": ["saying"],
        "chains": ["saying"],
        "chains_hold": ["saying", "value"],
        "is_sums": ["value"],
        "sums_answers": ["row"],
        "sums_hold": ["row", "answers"],
        "sums_paper": ["row"],
        "sums_paper_holds": ["row", "value"],
    },
    nets: {
        "is_net": ["value"],
        "outs_at": ["net", "tables", "play"],
        "net_saying": ["net", "goal"],
        "fill": ["net", "goal"],
        "fills_many": ["net", "goal"],
    },
    middles: {
        "middle": ["saying", "first"],
        "is_middle": ["saying", "first", "value"],
        "is_so": ["saying", "marked", "answers"],
    },
    shorter: {
        "cuts": ["saying"],
        "after_cut": ["saying", "cut"],
        "shorter": ["saying"],
        "answers_back": ["saying", "cuts", "answers"],
        "refutation_back": ["saying", "cuts", "refutation"],
    },
}


class Interface(Guarded):

    def test_each_function_stands_in_its_file_with_its_parameters(self):
        for module, functions in PARAMETERS.items():
            for name, parameters in functions.items():
                function = getattr(module, name)
                self.assertTrue(inspect.isfunction(function), name)
                self.assertEqual(function.__module__, module.__name__, name)
                self.assertEqual(function.__name__, name)
                self.assertEqual(inspect.getfile(function), module.__file__, name)
                self.assertEqual(list(inspect.signature(function).parameters), parameters, name)

    def test_each_parameter_is_passed_by_position_or_by_name_and_none_is_left_out(self):
        for module, functions in PARAMETERS.items():
            for name in functions:
                for parameter in inspect.signature(getattr(module, name)).parameters.values():
                    self.assertEqual(parameter.kind, parameter.POSITIONAL_OR_KEYWORD, name)
                    self.assertIs(parameter.default, parameter.empty, name)

    def test_the_package_is_a_folder_at_the_top_with_the_tests_beside_it(self):
        top = os.path.dirname(os.path.dirname(os.path.abspath(__file__)))
        self.assertEqual(os.path.abspath(onlyseen.__file__), os.path.join(top, "onlyseen", "__init__.py"))
        for module in [errors] + list(PARAMETERS):
            self.assertEqual(os.path.dirname(os.path.abspath(module.__file__)), os.path.join(top, "onlyseen"))
