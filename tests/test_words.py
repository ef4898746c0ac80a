import inspect
import unittest

from jettison import words
from jettison.words import is_name, number, ratio_of, ratio_text

SIGNS = [chr(code) for code in range(32, 127) if chr(code) != "%"] + ["\n"]


class NameTest(unittest.TestCase):
    def test_letters_one_to_eight(self):
        for text in ("a", "z", "tea", "mizzen", "abcdefgh", "zzzzzzzz", "aaaaaaaa"):
            self.assertIs(is_name(text), True, text)
        for letter in "abcdefghijklmnopqrstuvwxyz":
            self.assertIs(is_name(letter), True, letter)

    def test_too_short_and_too_long(self):
        for text in ("", "abcdefghi", "a" * 9, "a" * 400):
            self.assertIs(is_name(text), False, text)

    def test_every_sign_beside_a_to_z(self):
        for sign in SIGNS:
            if not "a" <= sign <= "z":
                for text in (sign, sign + "tea", "te" + sign + "a", "tea" + sign):
                    self.assertIs(is_name(text), False, text)

    def test_capital_letters_figures_blanks_and_line_ends(self):
        for text in ("Tea", "TEA", "teA", "tea1", "1", "te a", " tea", "tea ", " ", "tea\n", "\ntea", "\n", "`", "{"):
            self.assertIs(is_name(text), False, text)


class NumberTest(unittest.TestCase):
    def whole(self, text, awaited):
        told = number(text)
        self.assertEqual(told, awaited)
        self.assertIs(type(told), int)

    def test_figures(self):
        for many in list(range(200)) + [10 ** 9, 10 ** 12, 10 ** 40 - 1]:
            self.whole(str(many), many)
        self.whole("0", 0)
        self.whole("1234567890", 1234567890)

    def test_a_nought_ahead(self):
        for text in ("00", "01", "000", "0123", "0" * 64 + "1"):
            self.assertIsNone(number(text), text)

    def test_no_figures(self):
        for text in ("", " ", "\n", "-", "+", "a", "one", "ten1", "1e3", "0x1", "1.0", "1/2", ",", "1,0"):
            self.assertIsNone(number(text), text)

    def test_blanks_and_line_ends(self):
        for text in (" 1", "1 ", "\n1", "1\n", "1 0", "0\n", " 0", "1\n0"):
            self.assertIsNone(number(text), text)

    def test_what_python_itself_would_read(self):
        for text in ("+1", "-1", "1_0", "1_000", "+0", "-0", "_1", "1_"):
            self.assertIsNone(number(text), text)

    def test_every_other_sign(self):
        for sign in SIGNS:
            if sign not in "0123456789":
                for text in (sign, sign + "1", "1" + sign, "1" + sign + "1"):
                    self.assertIsNone(number(text), text)

    def test_a_thousand_figures(self):
        self.whole("9" * 1000, 10 ** 1000 - 1)
        self.whole("1" + "0" * 999, 10 ** 999)
        self.whole("12345678" * 125, 12345678 * ((10 ** 1000 - 1) // (10 ** 8 - 1)))
        self.assertIsNone(number("0" + "9" * 999))
        self.assertIsNone(number("9" * 999 + "\n"))
        self.assertIsNone(number("9" * 500 + "_" + "9" * 499))

    def test_every_length(self):
        for many in range(1, 400):
            text = ("10203040506070809" * 30)[:many]
            self.whole(text, int(text))

    def test_beyond_the_bound(self):
        self.whole("1" + "0" * 5000, 10 ** 5000)


class RatioWordsTest(unittest.TestCase):
    def test_written(self):
        for a, text in (((3, 4), "3/4"), ((0, 1), "0/1"), ((1, 1), "1/1"), ((12, 1), "12/1"), ((10, 7), "10/7")):
            self.assertEqual(ratio_text(a), text)

    def test_read(self):
        for text, a in (("3/4", (3, 4)), ("0/1", (0, 1)), ("1/1", (1, 1)), ("12/1", (12, 1)), ("10/7", (10, 7))):
            self.assertEqual(ratio_of(text), a)
            self.assertEqual([type(thing) for thing in ratio_of(text)], [int, int])
            self.assertIs(type(ratio_of(text)), tuple)

    def test_not_in_lowest_terms(self):
        for text in ("2/4", "0/2", "4/4", "6/3", "0/0", "1/0", "7/0", "10/100"):
            self.assertIsNone(ratio_of(text), text)

    def test_a_nought_ahead(self):
        for text in ("1/01", "01/1", "00/1", "0/01", "03/4", "3/04"):
            self.assertIsNone(ratio_of(text), text)

    def test_another_form(self):
        for text in ("", "/", "1", "1//2", "/1", "1/", "1/2/3", "/1/2", "1/2/", "1:2", "a/b", "1/b", "a/2"):
            self.assertIsNone(ratio_of(text), text)

    def test_blanks_and_line_ends(self):
        for text in ("1 /2", "1/ 2", " 1/2", "1/2 ", "1/2\n", "\n1/2", "1\n/2", "1/\n2", "1 / 2"):
            self.assertIsNone(ratio_of(text), text)

    def test_signs_ahead(self):
        for text in ("-1/2", "1/-2", "+1/2", "1/+2", "-1/-2", "-0/1", "1_0/3", "10/1_1"):
            self.assertIsNone(ratio_of(text), text)

    def test_there_and_back(self):
        for top in range(40):
            for bottom in range(1, 40):
                text = f"{top}/{bottom}"
                read = ratio_of(text)
                if read is not None:
                    self.assertEqual(read, (top, bottom))
                    self.assertEqual(ratio_text(read), text)
                else:
                    self.assertTrue(any(top % k == 0 and bottom % k == 0 for k in range(2, 40)), text)

    def test_great_ones_there_and_back(self):
        for many in (63, 64, 65, 127, 128, 129, 499, 500, 1000):
            text = "1" + "0" * (many - 1) + "/" + "9" * many
            self.assertEqual(ratio_text((10 ** (many - 1), 10 ** many - 1)), text)
            self.assertEqual(ratio_of(text), (10 ** (many - 1), 10 ** many - 1))
        self.assertIsNone(ratio_of("9" * 1000 + "/" + "3" * 1000))

    def test_a_fraction_that_is_written_may_have_more_figures(self):
        self.assertEqual(ratio_text((10 ** 20000, 10 ** 10000 + 1)), "1" + "0" * 20000 + "/1" + "0" * 9999 + "1")
        self.assertEqual(ratio_text((10 ** 6000 - 1, 10 ** 6000)), "9" * 6000 + "/1" + "0" * 6000)
        inner = "7" + "0" * 5000 + "3" + "0" * 100 + "9"
        top = 7 * 10 ** 5102 + 3 * 10 ** 101 + 9
        self.assertEqual(ratio_text((top, 1)), inner + "/1")


class InterfaceTest(unittest.TestCase):
    def test_names_and_arguments(self):
        for name, argument in (("is_name", "text"), ("number", "text"), ("ratio_text", "a"), ("ratio_of", "text")):
            self.assertEqual(list(inspect.signature(getattr(words, name)).parameters), [argument])


if __name__ == "__main__":
    unittest.main()
