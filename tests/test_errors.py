"""Point 3: the error classes."""

import onlyseen.errors
from onlyseen.errors import SightError
from tests.guard import Guarded
from tests.samples import strangers

NAMES = (
    "InvalidSaying InvalidPlay InvalidAnswers InvalidClause InvalidNumber InvalidName InvalidStep InvalidRefutation"
    " NoAnswers Holds InvalidSight NotPlain NotTwos InvalidSums InvalidNet InvalidGoal InvalidTables InvalidMarked"
    " InvalidCut Broken Nothing Unreadable InvalidCommand NotReady"
).split()


def all_classes():
    return [SightError] + [getattr(onlyseen.errors, name) for name in NAMES]


class ErrorClasses(Guarded):

    def test_there_are_twenty_four_under_sight_error(self):
        self.assertEqual(len(NAMES), 24)
        for name in NAMES:
            error = getattr(onlyseen.errors, name)
            self.assertEqual(error.__bases__, (SightError,), name)

    def test_sight_error_is_a_value_error(self):
        self.assertEqual(SightError.__bases__, (ValueError,))

    def test_each_is_defined_in_the_file_of_errors(self):
        for error, name in zip(all_classes(), ["SightError"] + NAMES):
            self.assertEqual((error.__module__, error.__name__), ("onlyseen.errors", name))

    def test_all_are_different_classes(self):
        self.assertEqual(len(set(all_classes())), 25)

    def test_each_keeps_the_object_itself_by_position(self):
        for error in all_classes():
            for value in strangers():
                self.assertIs(error(value).value, value)

    def test_each_keeps_the_object_itself_by_name(self):
        for error in all_classes():
            for value in strangers():
                self.assertIs(error(value=value).value, value)

    def test_what_is_kept_is_not_changed(self):
        inner = [3]
        value = [inner, (inner, {"a": inner})]
        for error in all_classes():
            kept = error(value).value
            self.assertIs(kept[0], inner)
            self.assertEqual(value, [[3], ([3], {"a": [3]})])

    def test_each_object_has_its_own_value(self):
        for error in all_classes():
            first, second = error("one"), error(value="other")
            self.assertEqual((first.value, second.value), ("one", "other"))
            self.assertNotIn("value", vars(error))

    def test_each_can_be_raised_and_caught_as_what_it_is(self):
        for error in all_classes():
            for kind in (error, SightError, ValueError):
                with self.assertRaises(kind) as caught:
                    raise error(("a", 1))
                self.assertIs(type(caught.exception), error)
                self.assertEqual(caught.exception.value, ("a", 1))

    def test_no_error_catches_another_one(self):
        for error in all_classes()[1:]:
            for other in all_classes()[1:]:
                self.assertEqual(issubclass(error, other), error is other)
