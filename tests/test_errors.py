import unittest

from stairsay import errors

REFUSALS = ("BadName", "Twice", "BadCount", "NoKind", "Groundless", "NoMaker", "NoName", "NoFunction", "NotLess",
            "BadKind", "TooLong", "NoPlace", "NotShown", "NoSaying", "BadText")


class TestErrors(unittest.TestCase):
    def test_say_error_stands_straight_under_value_error(self):
        self.assertEqual(errors.SayError.__bases__, (ValueError,))

    def test_each_refusal_stands_straight_under_say_error(self):
        for name in REFUSALS:
            with self.subTest(name):
                refusal = getattr(errors, name)
                self.assertEqual(refusal.__bases__, (errors.SayError,))
                self.assertEqual(refusal.__name__, name)

    def test_no_refusal_is_taken_for_another(self):
        for name in REFUSALS:
            for other in REFUSALS:
                with self.subTest(name=name, other=other):
                    under = issubclass(getattr(errors, name), getattr(errors, other))
                    self.assertEqual(under, name == other)

    def test_each_refusal_can_be_raised_and_taken(self):
        for name in REFUSALS:
            for taken in (name, "SayError"):
                with self.subTest(name=name, taken=taken):
                    with self.assertRaises(getattr(errors, taken)):
                        raise getattr(errors, name)("words")


if __name__ == "__main__":
    unittest.main()
