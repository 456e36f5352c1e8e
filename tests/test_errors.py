import unittest

from pieceyard import errors

NAMES = [
    "BadYard", "BadPosition", "NoMove", "Ended", "BadSide", "BadPaper",
    "TooMany", "NoWin", "NoProblem", "BadText", "Nothing", "NoKin",
]


class ErrorsTest(unittest.TestCase):
    def test_yard_error_is_straight_under_value_error(self):
        self.assertEqual(errors.YardError.__bases__, (ValueError,))

    def test_each_is_straight_under_yard_error(self):
        for name in NAMES:
            with self.subTest(name=name):
                refusal = getattr(errors, name)
                self.assertEqual(refusal.__bases__, (errors.YardError,))
                self.assertEqual(refusal.__name__, name)
                self.assertTrue(issubclass(refusal, ValueError))

    def test_none_is_under_another(self):
        for name in NAMES:
            for other in NAMES:
                with self.subTest(name=name, other=other):
                    under = issubclass(getattr(errors, name), getattr(errors, other))
                    self.assertEqual(under, name == other)

    def test_each_is_raised_with_words_of_its_own(self):
        for name in NAMES:
            with self.subTest(name=name):
                with self.assertRaises(errors.YardError) as taken:
                    raise getattr(errors, name)("some words")
                self.assertEqual(str(taken.exception), "some words")


if __name__ == "__main__":
    unittest.main()
