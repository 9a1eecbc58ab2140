"""Tests of wrapcount.errors: the classes, their bases, their parameters and fields."""

import inspect
import unittest

from tests.samples import crowded, strange_values
from wrapcount import errors

# In the order of the document, each with its parameters and their defaults.
REQUIRED = inspect.Parameter.empty
CLASSES = [
    ("InvalidNetwork", [("part", REQUIRED)]),
    ("InvalidPipe", [("index", REQUIRED)]),
    ("InvalidPlaces", [("value", REQUIRED)]),
    ("InvalidOrder", [("value", REQUIRED)]),
    ("InvalidFlow", [("part", REQUIRED), ("number", None)]),
    ("InvalidAnswer", [("part", REQUIRED)]),
    ("GroupSum", [("group", REQUIRED)]),
    ("NoCount", [("pipe", REQUIRED)]),
    ("NoFlow", [("reason", REQUIRED)]),
    ("NetworkMismatch", [("index", None)]),
    ("InvalidWeights", [("position", None)]),
    ("InvalidPipes", [("value", REQUIRED)]),
    ("InvalidRank", [("value", REQUIRED)]),
    ("InvalidPlan", [("part", REQUIRED), ("index", None)]),
    ("InvalidReadings", [("index", None), ("pipe", None)]),
    ("InvalidLevels", [("part", REQUIRED), ("tank", None)]),
    ("InvalidMeter", [("value", REQUIRED)]),
    ("LimitExceeded", [("limit", REQUIRED)]),
    ("NothingToUndo", []),
    ("ParseError", [("line", REQUIRED), ("word", REQUIRED)]),
]


def fields_of(error, parameters):
    return [getattr(error, name) for name, _ in parameters]


class Classes(unittest.TestCase):
    def test_module_defines_exactly_these_classes_in_this_order(self):
        defined = [name for name, value in vars(errors).items() if inspect.isclass(value)]
        self.assertEqual(defined, ["WrapcountError"] + [name for name, _ in CLASSES])
        for name in defined:
            self.assertEqual(getattr(errors, name).__module__, "wrapcount.errors")

    def test_base_class_is_a_value_error(self):
        self.assertEqual(errors.WrapcountError.__bases__, (ValueError,))

    def test_each_class_has_the_base_class_alone(self):
        for name, _ in CLASSES:
            with self.subTest(name):
                self.assertEqual(getattr(errors, name).__bases__, (errors.WrapcountError,))

    def test_each_class_has_these_parameters(self):
        for name, parameters in CLASSES:
            with self.subTest(name):
                found = inspect.signature(getattr(errors, name)).parameters.values()
                self.assertEqual([(one.name, one.default) for one in found], parameters)
                self.assertEqual({one.kind for one in found} - {inspect.Parameter.POSITIONAL_OR_KEYWORD}, set())

    def test_each_class_is_caught_as_the_base_class_and_as_a_value_error(self):
        for name, parameters in CLASSES:
            for base in (errors.WrapcountError, ValueError):
                with self.subTest(name), self.assertRaises(base):
                    raise getattr(errors, name)(*range(len(parameters)))


class Fields(unittest.TestCase):
    def test_fields_are_the_objects_passed_by_position(self):
        for name, parameters in CLASSES:
            with self.subTest(name):
                passed = [object() for _ in parameters]
                found = fields_of(getattr(errors, name)(*passed), parameters)
                self.assertTrue(all(one is other for one, other in zip(found, passed)))

    def test_fields_are_the_objects_passed_by_name(self):
        for name, parameters in CLASSES:
            with self.subTest(name):
                passed = {parameter: object() for parameter, _ in parameters}
                error = getattr(errors, name)(**passed)
                self.assertTrue(all(getattr(error, field) is passed[field] for field in passed))

    def test_there_are_no_other_fields(self):
        for name, parameters in CLASSES:
            with self.subTest(name):
                error = getattr(errors, name)(*range(len(parameters)))
                self.assertEqual(list(vars(error)), [field for field, _ in parameters])

    def test_left_out_fields_are_none(self):
        for name, parameters in CLASSES:
            with self.subTest(name):
                needed = [field for field, default in parameters if default is REQUIRED]
                error = getattr(errors, name)(*needed)
                self.assertEqual(fields_of(error, parameters), needed + [None] * (len(parameters) - len(needed)))

    def test_wrong_numbers_of_arguments(self):
        for name, parameters in CLASSES:
            needed = len([field for field, default in parameters if default is REQUIRED])
            for many in list(range(needed)) + [len(parameters) + 1]:
                with self.subTest(name, many=many), self.assertRaises(TypeError):
                    getattr(errors, name)(*range(many))

    def test_fields_may_be_of_any_kind(self):
        for value in strange_values():
            for name, parameters in CLASSES:
                error = getattr(errors, name)(*[value] * len(parameters))
                self.assertTrue(all(field is value for field in fields_of(error, parameters)))

    def test_message_is_short_whatever_the_fields_are(self):
        for name, parameters in CLASSES:
            with self.subTest(name):
                error = getattr(errors, name)(*[crowded(2)] * len(parameters))
                self.assertLess(len(str(error)), 200)
                self.assertLess(len(repr(error)), 200)


if __name__ == "__main__":
    unittest.main()
