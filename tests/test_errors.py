"""The interface under shoreways/errors.py."""

import unittest

from shoreways.errors import BadBoard, NoCell, NoStone, NotFull, Over, ShoreError, Taken, TooMany

REFUSALS = (BadBoard, NoCell, NotFull, Taken, Over, NoStone, TooMany)


class Errors(unittest.TestCase):
    def test_shore_error_is_a_value_error(self):
        self.assertEqual(ShoreError.__bases__, (ValueError,))

    def test_each_refusal_stands_under_shore_error_alone(self):
        for refusal in REFUSALS:
            with self.subTest(refusal=refusal.__name__):
                self.assertEqual(refusal.__bases__, (ShoreError,))
                self.assertTrue(issubclass(refusal, ValueError))

    def test_no_refusal_is_one_of_the_others(self):
        self.assertEqual(len(set(REFUSALS)), 7)
        for refusal in REFUSALS:
            for other in REFUSALS:
                if other is not refusal:
                    with self.subTest(refusal=refusal.__name__, other=other.__name__):
                        self.assertFalse(issubclass(refusal, other))

    def test_each_refusal_is_raised_with_words_and_taken_by_each_of_its_names(self):
        for refusal in REFUSALS:
            for name in (refusal, ShoreError, ValueError):
                with self.subTest(refusal=refusal.__name__, name=name.__name__):
                    with self.assertRaises(name) as taken:
                        raise refusal("some words")
                    self.assertIs(type(taken.exception), refusal)
                    self.assertEqual(str(taken.exception), "some words")


if __name__ == "__main__":
    unittest.main()
