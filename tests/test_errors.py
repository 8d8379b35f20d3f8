"""[0.6]: the errors and their fields."""

import unittest

from mailtide import errors

FIELDS = {
    "BadSet": "value", "BadFolder": "value", "BadNumber": "value", "BadSigns": "value", "BadDeed": "at",
    "BadNotice": "at", "BadRow": "at", "BadCopy": "value", "BadKey": "value", "BadText": "at", "BadValue": "why",
    "TooLarge": "limit",
}


class Errors(unittest.TestCase):

    def test_root(self):
        self.assertEqual(errors.TideError.__bases__, (ValueError,))

    def test_each_is_a_direct_subclass(self):
        for name in FIELDS:
            self.assertEqual(getattr(errors, name).__bases__, (errors.TideError,), name)

    def test_no_more_errors(self):
        classes = {name for name in vars(errors) if isinstance(vars(errors)[name], type)}
        self.assertEqual(classes, {"TideError", *FIELDS})

    def test_field_is_the_very_value(self):
        for name, field in FIELDS.items():
            for value in ([], None, -1, "empty", {}, True):
                error = getattr(errors, name)(value)
                self.assertIs(getattr(error, field), value)
                self.assertEqual(list(vars(error)), [field])

    def test_one_argument(self):
        for name in FIELDS:
            with self.assertRaises(TypeError):
                getattr(errors, name)()
            with self.assertRaises(TypeError):
                getattr(errors, name)(1, 2)

    def test_each_is_caught_as_the_root_and_as_itself_alone(self):
        for name in FIELDS:
            for other in FIELDS:
                self.assertEqual(issubclass(getattr(errors, name), getattr(errors, other)), name == other)
            with self.assertRaises(errors.TideError):
                raise getattr(errors, name)(1)

    def test_message_is_a_string(self):
        for name in FIELDS:
            self.assertIsInstance(str(getattr(errors, name)(object())), str)


if __name__ == "__main__":
    unittest.main()
