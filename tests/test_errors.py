import unittest

from timesrow.errors import NoAsk, NoBack, NoFit, NoNumber, NoRule, RowError

OF_TEXT = (NoRule, NoBack, NoFit, NoAsk)
ALL = OF_TEXT + (NoNumber,)


class Refusals(unittest.TestCase):
    def test_row_error_stands_directly_under_value_error(self):
        self.assertEqual(RowError.__bases__, (ValueError,))

    def test_each_stands_under_row_error_and_under_no_other(self):
        for kind in ALL:
            self.assertTrue(issubclass(kind, RowError))
            for other in ALL:
                self.assertEqual(issubclass(kind, other), kind == other)

    def test_made_of_a_text_which_str_tells(self):
        for kind in OF_TEXT:
            for text in ("", "so", "two words\nand a row"):
                self.assertEqual(str(kind(text)), text)

    def test_no_number_keeps_its_number(self):
        for number in (-1, 0, 7, 10 ** 12, -(10 ** 19), 10 ** 6000):
            self.assertEqual(NoNumber(number).number, number)
            self.assertEqual(NoNumber(number=number).number, number)
            self.assertIsInstance(str(NoNumber(number)), str)

    def test_all_are_caught_as_row_error(self):
        for refusal in [kind("x") for kind in OF_TEXT] + [NoNumber(3)]:
            with self.assertRaises(RowError):
                raise refusal


if __name__ == "__main__":
    unittest.main()
