"""Points 0 and 2: the exceptions and their fields."""

import inspect
import unittest

from tests.helpers import ProgramTestCase, tower
from weekdaylegs import errors

FIELDS = {
    "InvalidDiary": ("part", "item"),
    "InvalidEvent": ("value",),
    "InvalidDays": ("part", "item"),
    "InvalidWalk": ("spot",),
    "InvalidNumber": ("value",),
    "InvalidAnswer": ("part",),
    "NoCalendar": ("reason",),
    "InvalidWindow": ("part",),
    "InvalidRank": ("value",),
    "LimitExceeded": ("limit",),
    "Mismatch": ("part", "spot"),
    "NothingToUndo": (),
    "ParseError": ("line", "word"),
}
OPTIONAL = ("item", "spot")


def made(name, value):
    """Return the error of this name with this value in all of its fields."""
    return getattr(errors, name)(*[value] * len(FIELDS[name]))


class ErrorsTest(ProgramTestCase):
    def test_base_class_is_a_value_error(self):
        self.assertEqual(errors.WeekdaylegsError.__bases__, (ValueError,))

    def test_each_is_a_direct_subclass(self):
        for name in FIELDS:
            self.assertEqual(getattr(errors, name).__bases__, (errors.WeekdaylegsError,), name)

    def test_constructor_parameters(self):
        for name, fields in FIELDS.items():
            found = list(inspect.signature(getattr(errors, name)).parameters.values())
            self.assertEqual(tuple(parameter.name for parameter in found), fields)
            for parameter in found:
                wanted = None if parameter.name in OPTIONAL else inspect.Parameter.empty
                self.assertIs(parameter.default, wanted)

    def test_fields_are_the_objects_that_were_passed(self):
        for name, fields in FIELDS.items():
            for sample in ([1], {}, object(), tower(())):
                values = [[sample], sample][:len(fields)]
                placed = getattr(errors, name)(*values)
                named = getattr(errors, name)(**dict(zip(fields, values)))
                for error in (placed, named):
                    self.assertEqual(tuple(vars(error)), fields)
                    for field, value in zip(fields, values):
                        self.assertTrue(getattr(error, field) is value)

    def test_fields_are_none_where_a_parameter_was_left_out(self):
        self.assertIsNone(errors.InvalidDiary("modulus").item)
        self.assertIsNone(errors.InvalidDays("form").item)
        self.assertIsNone(errors.InvalidWalk().spot)
        self.assertIsNone(errors.Mismatch("modulus").spot)

    def test_other_parameters_are_needed(self):
        for name, fields in FIELDS.items():
            if any(field not in OPTIONAL for field in fields):
                with self.assertRaises(TypeError):
                    getattr(errors, name)()
            with self.assertRaises(TypeError):
                getattr(errors, name)(*[0] * (len(fields) + 1))

    def test_there_are_no_other_errors(self):
        found = [name for name, kind in vars(errors).items() if inspect.isclass(kind)]
        self.assertEqual(sorted(found), sorted([*FIELDS, "WeekdaylegsError"]))

    def test_message_ends_for_values_with_very_many_parts(self):
        for name in FIELDS:
            self.assertLess(len(str(made(name, tower(())))), 100)

    def test_raised_errors_are_caught_by_the_base_class(self):
        for name in FIELDS:
            with self.assertRaises(errors.WeekdaylegsError):
                raise made(name, "x")


if __name__ == "__main__":
    unittest.main()
