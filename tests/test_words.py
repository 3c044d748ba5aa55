"""Point 4: names and numbers."""

import unittest

from flyloft.words import is_name, number_of

# Every sign that a text may have, from the blank to ~ but the percent sign.
SIGNS = [chr(code) for code in range(ord(" "), ord("~") + 1) if chr(code) != chr(37)]
LETTERS = "abcdefghijklmnopqrstuvwxyz"
FIGURES = "0123456789"


class Names(unittest.TestCase):

    def test_lengths(self):
        self.assertIs(is_name(""), False)
        self.assertIs(is_name("a"), True)
        self.assertIs(is_name("ab"), True)
        self.assertIs(is_name("abcdefg"), True)
        self.assertIs(is_name("abcdefgh"), True)
        self.assertIs(is_name("abcdefghi"), False)
        self.assertIs(is_name("a" * 200), False)

    def test_each_sign_by_itself(self):
        for sign in SIGNS:
            with self.subTest(sign=sign):
                self.assertIs(is_name(sign), sign in LETTERS)

    def test_each_sign_at_the_beginning_amid_and_at_the_end(self):
        for sign in SIGNS:
            for text in (sign + "low", "lo" + sign + "w", "low" + sign):
                with self.subTest(text=text):
                    self.assertIs(is_name(text), sign in LETTERS)

    def test_eight_signs_of_which_one_is_no_small_letter(self):
        for sign in "A0 _-/`{":
            for place in range(8):
                text = "a" * place + sign + "a" * (7 - place)
                with self.subTest(text=text):
                    self.assertIs(is_name(text), False)

    def test_words_of_the_lines_are_names_too(self):
        for text in ("plate", "bar", "piece", "bay", "none"):
            self.assertIs(is_name(text), True)


class Numbers(unittest.TestCase):

    def is_number(self, text, number):
        told = number_of(text)
        self.assertIs(type(told), int)
        self.assertEqual(told, number)

    def test_nought_and_one_figure(self):
        for number in range(10):
            self.is_number(str(number), number)

    def test_more_figures(self):
        self.is_number("10", 10)
        self.is_number("60", 60)
        self.is_number("1000000000000", 10 ** 12)
        self.is_number("100000000000000", 10 ** 14)
        self.is_number("1234567890", 1234567890)

    def test_sixteen_figures_and_seventeen(self):
        self.is_number("1000000000000000", 10 ** 15)
        self.is_number("9999999999999999", 10 ** 16 - 1)
        self.assertIsNone(number_of("10000000000000000"))
        self.assertIsNone(number_of("99999999999999999"))
        self.assertIsNone(number_of("1" * 200))

    def test_no_nought_ahead(self):
        for text in ("00", "01", "007", "0" * 16, "0" * 17, "0000000000000001"):
            with self.subTest(text=text):
                self.assertIsNone(number_of(text))

    def test_no_sign_ahead(self):
        for text in ("-0", "+0", "-1", "+1", "--1", "-12"):
            with self.subTest(text=text):
                self.assertIsNone(number_of(text))

    def test_no_signs_at_all(self):
        self.assertIsNone(number_of(""))

    def test_each_other_sign_at_any_place(self):
        for sign in SIGNS:
            if sign in FIGURES:
                continue
            for text in (sign, sign + "12", "1" + sign + "2", "12" + sign, "0" + sign, sign + "0"):
                with self.subTest(text=text):
                    self.assertIsNone(number_of(text))

    def test_forms_that_python_itself_would_take(self):
        for text in ("1_000", " 1", "1 ", "1\n", "0x1", "1e3", "1.0", "\u0661", "\u00b2"):
            with self.subTest(text=text):
                self.assertIsNone(number_of(text))


if __name__ == "__main__":
    unittest.main()
