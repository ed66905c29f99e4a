"""Point 2: equal arguments give equal values, nothing is modified or kept, lists are new."""

import copy
import random

from onlyseen.answers import answers_with, broken_at, fixed, holds, many, nth, place, value_of
from onlyseen.sayings import copies, is_answers, is_clause, is_play, is_saying, letters_at, plays, seen
from tests import oracle
from tests.guard import Guarded, inner_parts, picture
from tests.samples import EMPTY, NO_CLAUSES, NO_PICKS, SMALL, THREE, largest_sayings, some_answers, strangers


F, T = False, True


def rebuilt(value):
    """An equal object, all of whose tuples and lists are other ones."""
    if type(value) in (list, tuple):
        return type(value)([rebuilt(part) for part in value])
    return value


def calls():
    """Functions with arguments that are right; the counting ones with few copies alone."""
    rng = random.Random(18)
    found = []
    for saying in [SMALL, THREE, EMPTY, NO_PICKS, NO_CLAUSES] + largest_sayings()[:2]:
        answers = some_answers(rng, saying)
        play = oracle.plays(saying)[-1]
        rows = [truth for table in answers for truth in table]
        found += [(is_saying, saying), (is_clause, saying, ()), (is_play, saying, play), (is_answers, saying, answers),
                  (plays, saying), (copies, saying), (letters_at, saying, saying[2][0] if saying[2] else (), play),
                  (holds, saying, answers), (broken_at, saying, answers), (answers_with, saying, rows)]
        for name, _ in saying[1]:
            found += [(seen, saying, name, play), (value_of, saying, answers, name, play)]
        if len(rows) < 20:
            found += [(many, saying), (nth, saying, 0), (nth, saying, 1), (place, saying, answers), (fixed, saying)]
    return found


class General(Guarded):

    def test_equal_arguments_give_equal_values_and_nothing_is_modified(self):
        for function, *passed in calls():
            before = picture(passed)
            first = function(*passed)
            self.assertEqual(picture(passed), before, function.__name__)
            kept = copy.deepcopy(first)
            self.assert_same(function(*rebuilt(passed)), kept)
            self.assert_same(function(*passed), kept)
            self.assert_same(first, kept)

    def test_equal_again_behind_other_calls(self):
        values = [(call, call[0](*call[1:])) for call in calls()]
        for call, value in reversed(values):
            self.assert_same(call[0](*call[1:]), value)

    def test_returned_lists_are_new(self):
        for function, *passed in calls():
            first, second = function(*passed), function(*passed)
            if type(first) is list:
                self.assertIsNot(first, second)
                parts = [id(part) for part in inner_parts(first) if type(part) is list]
                self.assertEqual(len(parts), len(set(parts)))
                first.append("more")
                self.assert_same(function(*passed), second)

    def test_whether_is_true_or_false(self):
        for value in strangers() + [SMALL, list(SMALL)]:
            for told in (is_saying(value), is_clause(SMALL, value), is_play(SMALL, value), is_answers(SMALL, value)):
                self.assertIs(type(told), bool)
        for function, *passed in calls():
            if function in (holds, is_saying, is_clause, is_play, is_answers, value_of):
                self.assertIs(type(function(*passed)), bool)

    def test_numbers_are_integers_and_truths_are_truths(self):
        for saying in (SMALL, THREE, EMPTY, NO_PICKS, NO_CLAUSES):
            self.assertIs(type(many(saying)), int)
            for answers in oracle.every_answers(saying)[:8]:
                self.assertIs(type(place(saying, answers)), int)
            answers = nth(saying, 0)
            for part in inner_parts(answers):
                for one in part:
                    self.assertIn(type(one), (tuple, bool))
            for part in fixed(saying):
                self.assertEqual([type(one) for one in part], [str, tuple, bool])
        index, play = broken_at(SMALL, ((F, F), (F, F)))
        self.assertEqual((type(index), [type(one) for one in play]), (int, [bool, bool]))

    def test_a_refused_call_changes_nothing(self):
        before = [call[0](*call[1:]) for call in calls()]
        for value in strangers():
            for function in (plays, copies, many, fixed):
                try:
                    function(value)
                except ValueError:
                    pass
        self.assert_same([call[0](*call[1:]) for call in calls()], before)
