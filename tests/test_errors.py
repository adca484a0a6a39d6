import unittest

from lookwords import errors

NAMES = ("NoWords", "NoLook", "NoNumbers", "NoRoom", "NoWord", "NoWorths", "Never", "Full", "Known", "NoPlace",
         "NoLetters", "NoText", "Nothing")


class ErrorsTest(unittest.TestCase):
    def test_any_refusal_is_a_value_error(self):
        self.assertEqual(errors.WordError.__bases__, (ValueError,))

    def test_each_refusal_stands_straight_under_word_error(self):
        for name in NAMES:
            with self.subTest(name):
                self.assertEqual(getattr(errors, name).__bases__, (errors.WordError,))

    def test_all_are_unlike(self):
        self.assertEqual(len({getattr(errors, name) for name in NAMES}), len(NAMES))

    def test_they_can_be_raised_and_taken(self):
        for name in NAMES:
            with self.subTest(name), self.assertRaises(errors.WordError):
                raise getattr(errors, name)("why")


if __name__ == "__main__":
    unittest.main()
