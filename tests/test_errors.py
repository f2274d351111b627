"""[1] and the interface: the refusals."""

import unittest

from stepline import errors

NAMES = ["NoLine", "NoRows", "NoPlace", "NoValue", "NoNumber", "Unlike", "Falls", "TooGreat", "NoStep", "NoDeed",
         "NoText", "NoWay"]


class ErrorsTest(unittest.TestCase):
    def test_any_refusal_is_a_value_error(self):
        self.assertTrue(issubclass(errors.LineError, ValueError))
        self.assertEqual(errors.LineError.__bases__, (ValueError,))

    def test_each_is_a_line_error_and_a_value_error(self):
        for name in NAMES:
            with self.subTest(name):
                error = getattr(errors, name)
                self.assertEqual(error.__name__, name)
                self.assertTrue(issubclass(error, errors.LineError))
                self.assertTrue(issubclass(error, ValueError))
                self.assertIsNot(error, errors.LineError)

    def test_none_is_under_another_one(self):
        for one in NAMES:
            for other in NAMES:
                if one != other:
                    with self.subTest(one=one, other=other):
                        self.assertFalse(issubclass(getattr(errors, one), getattr(errors, other)))

    def test_each_can_be_raised_and_caught_by_either_name(self):
        for name in NAMES:
            error = getattr(errors, name)
            for caught in (error, errors.LineError, ValueError):
                with self.subTest(name=name, caught=caught), self.assertRaises(caught):
                    raise error("why")


if __name__ == "__main__":
    unittest.main()
