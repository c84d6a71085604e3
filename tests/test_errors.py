import unittest

from purseweb import errors
from tests.helper import NAMES

FIELDS = {"NoWeb": "place", "Apart": "houses", "TooMany": "most", "NoTotal": "total"}


class ErrorsTest(unittest.TestCase):
    def test_each_refusal_is_a_purse_error_and_a_value_error(self):
        self.assertTrue(issubclass(errors.PurseError, ValueError))
        for name in NAMES:
            self.assertTrue(issubclass(getattr(errors, name), errors.PurseError), name)

    def test_no_refusal_stands_under_another_one(self):
        for name in NAMES:
            for other in NAMES:
                if name != other:
                    self.assertFalse(issubclass(getattr(errors, name), getattr(errors, other)), (name, other))

    def test_fields_are_set_when_the_error_is_made(self):
        for name, field in FIELDS.items():
            for value in (0, 3, -7, (0, 2)):
                self.assertEqual(getattr(getattr(errors, name)(value), field), value)

    def test_every_refusal_can_be_raised_and_taken(self):
        for name in NAMES:
            with self.assertRaises(errors.PurseError):
                raise getattr(errors, name)(1)


if __name__ == "__main__":
    unittest.main()
