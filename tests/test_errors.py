import unittest

from jumpfield import errors

NAMES = [
    "NoNumber",
    "NoRule",
    "Restless",
    "NoSquare",
    "NoLevel",
    "NoState",
    "NoBox",
    "TooFar",
    "TooMany",
    "NoSteps",
    "NoPattern",
    "NoName",
    "NoRow",
]


class ErrorsTest(unittest.TestCase):
    def test_field_error_stands_under_value_error(self):
        self.assertEqual(errors.FieldError.__bases__, (ValueError,))

    def test_each_refusal_stands_straight_under_field_error(self):
        for name in NAMES:
            with self.subTest(name=name):
                refusal = getattr(errors, name)
                self.assertEqual(refusal.__name__, name)
                self.assertEqual(refusal.__bases__, (errors.FieldError,))

    def test_no_refusal_is_another_one(self):
        for name in NAMES:
            for other in NAMES:
                with self.subTest(name=name, other=other):
                    below = issubclass(getattr(errors, name), getattr(errors, other))
                    self.assertEqual(below, name == other)

    def test_each_refusal_is_raised_and_taken(self):
        for name in NAMES:
            refusal = getattr(errors, name)
            for taken in (refusal, errors.FieldError, ValueError):
                with self.subTest(name=name, taken=taken):
                    with self.assertRaises(taken) as caught:
                        raise refusal("free words")
                    self.assertIs(caught.exception.__class__, refusal)


if __name__ == "__main__":
    unittest.main()
