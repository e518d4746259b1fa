"""The interface, section ferrynight/errors.py."""

import unittest

from ferrynight import errors

SEVEN = ["BadThing", "BadRoom", "BadQuarrel", "NoStanding", "BadStart", "NoCrew", "BadNote"]


class ErrorsTest(unittest.TestCase):
    def test_ferry_error_stands_under_value_error(self):
        self.assertTrue(issubclass(errors.FerryError, ValueError))

    def test_each_stands_under_ferry_error(self):
        for name in SEVEN:
            with self.subTest(name):
                self.assertTrue(issubclass(getattr(errors, name), errors.FerryError))
                self.assertIsNot(getattr(errors, name), errors.FerryError)

    def test_none_stands_under_another(self):
        for name in SEVEN:
            for other in SEVEN:
                if name != other:
                    with self.subTest(f"{name} under {other}"):
                        self.assertFalse(issubclass(getattr(errors, name), getattr(errors, other)))

    def test_each_is_raised_and_taken_as_a_refusal(self):
        for name in SEVEN:
            with self.subTest(name):
                with self.assertRaises(errors.FerryError) as caught:
                    raise getattr(errors, name)("words")
                self.assertEqual(type(caught.exception).__name__, name)


if __name__ == "__main__":
    unittest.main()
