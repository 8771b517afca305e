import unittest

from nohalfway import errors

NAMES = ["NoNet", "NoBooks", "NoDoor", "NoAddress", "NoSaying", "NoRow", "NoPlan", "NoMove", "NoText"]


class Errors(unittest.TestCase):
    def test_way_error_stands_straight_under_value_error(self):
        self.assertEqual(errors.WayError.__bases__, (ValueError,))

    def test_each_of_the_nine_stands_straight_under_way_error(self):
        for name in NAMES:
            with self.subTest(name):
                self.assertEqual(getattr(errors, name).__bases__, (errors.WayError,))
                self.assertEqual(getattr(errors, name).__name__, name)

    def test_none_stands_under_another_one(self):
        for name in NAMES:
            for other in NAMES:
                if name != other:
                    with self.subTest(name=name, other=other):
                        self.assertFalse(issubclass(getattr(errors, name), getattr(errors, other)))

    def test_each_is_raised_with_words_and_taken_as_any_refusal(self):
        for name in NAMES:
            with self.subTest(name):
                with self.assertRaises(errors.WayError) as taken:
                    raise getattr(errors, name)("words")
                self.assertEqual(str(taken.exception), "words")


if __name__ == "__main__":
    unittest.main()
