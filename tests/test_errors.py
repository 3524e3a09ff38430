"""Points 11 and 12: the error classes and their arguments."""

import inspect
import unittest

from bundlekinds import errors
from bundlekinds.errors import BundleError

ARGUMENTS = {
    "BadName": ("name",),
    "DuplicateName": ("name",),
    "UnknownName": ("name",),
    "BadCount": ("count",),
    "BadBundle": ("value",),
    "BadWorth": ("worth",),
    "NotRising": ("value", "name"),
    "BadText": ("text",),
    "BadPrice": ("price",),
    "BadUnit": ("value",),
    "BadFactor": ("value",),
    "UnlikeGoods": ("names",),
    "NotWanted": ("value",),
    "NotHigher": ("name",),
    "NotNested": ("value",),
    "BadSteps": ("steps",),
    "BadSharing": ("sharing",),
    "BadBound": ("bound",),
    "IsSubstitutes": (),
    "NothingToUndo": (),
}


class Unhelpful:
    """A value that can be kept, but not shown, compared, measured or put into a dict."""

    __hash__ = None

    def __repr__(self):
        raise AssertionError("an error must not show its argument")

    def __eq__(self, other):
        raise AssertionError("an error must not compare its argument")

    def __len__(self):
        raise AssertionError("an error must not measure its argument")


def strange_values():
    """Return values of many kinds, most of them not of the kind that an error is usually given."""
    return [None, True, False, 0, -1, 10**40, "", "tea", "1x\n", (), ("x", "y"), [], [1, [2]], {}, {"x": [1]}, object(),
            Unhelpful()]


class TheClasses(unittest.TestCase):
    def test_these_are_all_the_error_classes(self):
        found = {name for name, item in vars(errors).items() if inspect.isclass(item)}
        self.assertEqual(found, set(ARGUMENTS) | {"BundleError"})
        self.assertEqual(len(ARGUMENTS), 20)

    def test_the_base_is_a_value_error(self):
        self.assertTrue(issubclass(BundleError, ValueError))
        self.assertFalse(issubclass(BundleError, LookupError))

    def test_each_is_a_bundle_error_and_none_of_the_others(self):
        for name in ARGUMENTS:
            with self.subTest(name):
                one = getattr(errors, name)
                self.assertTrue(issubclass(one, BundleError))
                self.assertTrue(issubclass(one, ValueError))
                above = [other for other in ARGUMENTS if other != name and issubclass(one, getattr(errors, other))]
                self.assertEqual(above, [])

    def test_the_base_is_none_of_the_twenty(self):
        for name in ARGUMENTS:
            self.assertFalse(issubclass(BundleError, getattr(errors, name)))

    def test_each_is_defined_in_the_errors_file(self):
        for name in ["BundleError", *ARGUMENTS]:
            self.assertEqual(getattr(errors, name).__module__, "bundlekinds.errors")


class TheArguments(unittest.TestCase):
    def check_kept(self, error, arguments):
        self.assertEqual(list(vars(error)), list(arguments))
        for key, value in arguments.items():
            self.assertIs(getattr(error, key), value)

    def test_by_position_they_are_kept_as_they_are(self):
        for name, keys in ARGUMENTS.items():
            for value in strange_values():
                with self.subTest(name):
                    arguments = {key: value if at == 0 else object() for at, key in enumerate(keys)}
                    self.check_kept(getattr(errors, name)(*arguments.values()), arguments)

    def test_by_name_they_are_kept_as_they_are(self):
        for name, keys in ARGUMENTS.items():
            for value in strange_values():
                with self.subTest(name):
                    arguments = {key: value if at == 0 else object() for at, key in enumerate(keys)}
                    self.check_kept(getattr(errors, name)(**arguments), arguments)

    def test_the_two_arguments_of_not_rising_are_not_mixed_up(self):
        error = errors.NotRising(("y",), "x")
        self.assertEqual((error.value, error.name), (("y",), "x"))
        error = errors.NotRising(name="x", value=("y",))
        self.assertEqual((error.value, error.name), (("y",), "x"))

    def test_a_list_in_an_error_is_not_copied(self):
        steps = [3, 2]
        error = errors.BadSteps(steps)
        steps.append(1)
        self.assertEqual(error.steps, [3, 2, 1])

    def test_each_can_be_raised_and_caught_by_its_own_name_and_by_its_base(self):
        for name, keys in ARGUMENTS.items():
            kind = getattr(errors, name)
            for caught in [kind, BundleError, ValueError]:
                with self.subTest(name), self.assertRaises(caught) as told:
                    raise kind(*[object() for _ in keys])
                self.assertIs(told.exception.__class__, kind)

    def test_no_argument_may_be_left_out_and_none_added(self):
        for name, keys in ARGUMENTS.items():
            if keys:
                kind = getattr(errors, name)
                with self.subTest(name):
                    self.assertRaises(TypeError, kind)
                    self.assertRaises(TypeError, kind, *keys, "more")


if __name__ == "__main__":
    unittest.main()
