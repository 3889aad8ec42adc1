import unittest

from waitwheel import errors

REFUSALS = ["NoDeed", "TieTwice", "Idle", "NotOnePiece", "TooSlow", "BadNote"]


class ErrorsTest(unittest.TestCase):
    def test_wheel_error_stands_under_value_error(self):
        self.assertEqual(errors.WheelError.__bases__, (ValueError,))

    def test_each_refusal_stands_under_wheel_error_and_value_error(self):
        for name in REFUSALS:
            with self.subTest(name):
                refusal = getattr(errors, name)
                self.assertEqual(refusal.__name__, name)
                self.assertTrue(issubclass(refusal, errors.WheelError))
                self.assertTrue(issubclass(refusal, ValueError))

    def test_no_refusal_stands_under_another(self):
        for name in REFUSALS:
            for other in REFUSALS:
                if name != other:
                    with self.subTest(name=name, other=other):
                        self.assertFalse(issubclass(getattr(errors, name), getattr(errors, other)))

    def test_wheel_error_stands_under_none_of_the_refusals(self):
        for name in REFUSALS:
            self.assertFalse(issubclass(errors.WheelError, getattr(errors, name)))


if __name__ == "__main__":
    unittest.main()
