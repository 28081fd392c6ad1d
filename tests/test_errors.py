import unittest

from samples import FIELDS, STRANGE, Case
from whomaysign import errors


class Errors(Case):

    def test_bases(self):
        self.assertEqual(errors.SignError.__bases__, (ValueError,))
        self.assertEqual(errors.TooMany.__bases__, (OverflowError,))
        for error in FIELDS:
            if error is not errors.TooMany:
                self.assertEqual(error.__bases__, (errors.SignError,), error)

    def test_made_by_position(self):
        for error, field in FIELDS.items():
            for value in STRANGE:
                self.assertIs(getattr(error(value), field), value)

    def test_made_by_name(self):
        for error, field in FIELDS.items():
            for value in STRANGE:
                self.assertIs(getattr(error(**{field: value}), field), value)

    def test_made_with_just_one_field(self):
        for error, field in FIELDS.items():
            with self.assertRaises(TypeError):
                error()
            with self.assertRaises(TypeError):
                error(1, 2)
            with self.assertRaises(TypeError):
                error(1, **{field: 1})
            with self.assertRaises(TypeError):
                error(other=1)

    def test_caught_as_what_they_are(self):
        for error in FIELDS:
            wider = OverflowError if error is errors.TooMany else errors.SignError
            with self.assertRaises(wider):
                raise error("x")
        self.assertFalse(issubclass(errors.TooMany, ValueError))


if __name__ == "__main__":
    unittest.main()
