import copy
import unittest

from signpoly.errors import NoLine, NoText, OnNought, SignError

REFUSALS = (OnNought, NoText, NoLine)


class Errors(unittest.TestCase):
    def test_sign_error_is_a_value_error(self):
        self.assertTrue(issubclass(SignError, ValueError))

    def test_each_refusal_stands_straight_under_sign_error(self):
        for refusal in REFUSALS:
            self.assertEqual(refusal.__bases__, (SignError,))

    def test_no_refusal_is_another(self):
        for one in REFUSALS:
            for other in REFUSALS:
                self.assertEqual(issubclass(one, other), one is other)

    def test_each_refusal_is_taken_as_sign_error_and_value_error(self):
        for made in (OnNought(3), NoText("a text"), NoLine("a line")):
            for taken in (SignError, ValueError):
                with self.assertRaises(taken):
                    raise made

    def test_on_nought_keeps_its_row(self):
        for row in (0, 1, 63):
            self.assertEqual(OnNought(row).row, row)
            self.assertEqual(copy.copy(OnNought(row)).row, row)

    def test_texts_are_kept(self):
        self.assertEqual(str(NoText("a text")), "a text")
        self.assertEqual(str(NoLine("a line")), "a line")


if __name__ == "__main__":
    unittest.main()
