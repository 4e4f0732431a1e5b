import unittest

from boxlayers.errors import BoxError, NoLine, NoNumber, NoText, NoThing, Taken

MADE_WITH_TEXTS = (NoThing, Taken, NoText, NoLine)
REFUSALS = MADE_WITH_TEXTS + (NoNumber,)


class Refusals(unittest.TestCase):
    def test_box_error_stands_straight_under_value_error(self):
        self.assertEqual(BoxError.__bases__, (ValueError,))

    def test_each_refusal_stands_straight_under_box_error(self):
        for refusal in REFUSALS:
            self.assertEqual(refusal.__bases__, (BoxError,), refusal)

    def test_none_stands_under_another(self):
        for refusal in REFUSALS:
            for other in REFUSALS:
                self.assertEqual(issubclass(refusal, other), refusal is other)

    def test_made_with_a_text(self):
        for refusal in MADE_WITH_TEXTS:
            with self.assertRaises(refusal) as caught:
                raise refusal("some words")
            self.assertIsInstance(caught.exception, BoxError)
            self.assertIsInstance(caught.exception, ValueError)
            self.assertIn("some words", str(caught.exception))

    def test_no_number_has_its_row(self):
        for row in (0, 1, 399, 10 ** 18):
            with self.assertRaises(NoNumber) as caught:
                raise NoNumber(row)
            self.assertEqual(caught.exception.row, row)
            self.assertIsInstance(caught.exception.row, int)
            self.assertIsInstance(caught.exception, BoxError)
            self.assertIsInstance(caught.exception, ValueError)
            self.assertIsInstance(str(caught.exception), str)


if __name__ == "__main__":
    unittest.main()
