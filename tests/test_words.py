"""Names, keys and written numbers: point 5; whole numbers: point 2."""

import string
import unittest

from oncedoor.words import is_key, is_name, is_whole, number_of

# All signs that may be handed in (point 2): from the blank to ~, and line ends.
SIGNS = [chr(code) for code in range(32, 127) if chr(code) != "\x25"] + ["\n"]

NO_TEXTS = (
    None, True, False, 0, 1, 5, -1, 1.0, b"ann", [], ["a"], ["ann"], (), ("a",), ("a", "n", "n"),
    {}, {"a": 1}, {"a"}, frozenset("a"), object(), str, len, range(3),
)


class NamesAndKeys(unittest.TestCase):

    def check(self, asked, thing, due):
        with self.subTest(thing=thing):
            self.assertIs(asked(thing), due)

    def test_names_by_length(self):
        for length in range(0, 30):
            self.check(is_name, "a" * length, 1 <= length <= 8)
        self.check(is_name, "a" * 60000, False)

    def test_keys_by_length(self):
        for length in range(0, 30):
            self.check(is_key, "a" * length, 1 <= length <= 12)
            self.check(is_key, "7" * length, 1 <= length <= 12)
        self.check(is_key, "a" * 60000, False)

    def test_each_sign_by_itself(self):
        for sign in SIGNS:
            self.check(is_name, sign, sign in string.ascii_lowercase)
            self.check(is_key, sign, sign in string.ascii_lowercase + string.digits)

    def test_each_sign_in_each_place(self):
        for sign in SIGNS:
            for length in (2, 3, 7):
                for place in range(length + 1):
                    text = "b" * place + sign + "y" * (length - place)
                    self.check(is_name, text, sign in string.ascii_lowercase)
                    self.check(is_key, text, sign in string.ascii_lowercase + string.digits)

    def test_each_sign_in_each_place_of_the_longest_key(self):
        for sign in SIGNS:
            for place in range(12):
                text = "b" * place + sign + "9" * (11 - place)
                self.check(is_key, text, sign in string.ascii_lowercase + string.digits)

    def test_ordinary_ones(self):
        for text in ("ann", "bo", "a", "z", "abcdefgh", "stuvwxyz"):
            self.check(is_name, text, True)
            self.check(is_key, text, True)
        for text in ("k1", "1k", "0", "9", "00", "hall12a", "abcdefgh1234", "012345678901"):
            self.check(is_name, text, False)
            self.check(is_key, text, True)

    def test_wrong_ones(self):
        for text in ("", " ", "Ann", "anN", "an n", " ann", "ann ", "ann\n", "\nann", "an\nn", "an-n", "an_n", "-1"):
            self.check(is_name, text, False)
            self.check(is_key, text, False)

    def test_a_full_length_with_a_line_end_behind(self):
        self.check(is_name, "abcdefg\n", False)
        self.check(is_name, "abcdefgh\n", False)
        self.check(is_key, "abcdefgh123\n", False)
        self.check(is_key, "abcdefgh1234\n", False)

    def test_things_that_are_no_texts(self):
        for thing in NO_TEXTS:
            self.check(is_name, thing, False)
            self.check(is_key, thing, False)


class Numbers(unittest.TestCase):

    def check(self, text, due):
        with self.subTest(text=text):
            number = number_of(text)
            self.assertEqual(number, due)
            self.assertIs(type(number), type(due))

    def test_nought(self):
        self.check("0", 0)

    def test_by_length(self):
        for length in range(1, 14):
            self.check("1" + "0" * (length - 1), 10 ** (length - 1))
            self.check("9" * length, 10 ** length - 1)
            self.check("1234567890123"[:length], int("1234567890123"[:length]))
        for length in (14, 15, 20, 100, 5000):
            self.check("1" + "0" * (length - 1), None)
            self.check("9" * length, None)

    def test_each_figure(self):
        for figure in range(1, 10):
            self.check(str(figure), figure)
            self.check(str(figure) + "0", figure * 10)

    def test_a_nought_ahead(self):
        for text in ("00", "01", "05", "007", "0123456789012", "0" * 13, "0" * 14, "00000000000001"):
            self.check(text, None)

    def test_no_signs(self):
        self.check("", None)

    def test_other_signs_ahead_within_behind(self):
        for sign in SIGNS:
            if sign not in string.digits:
                for text in (sign, sign + "12", "1" + sign + "2", "12" + sign, sign + "0", "0" + sign):
                    self.check(text, None)

    def test_what_python_would_read(self):
        for text in ("+5", "-5", "-0", " 5", "5 ", "5\n", "\n5", "1_000", "1.0", "1e3", "0x10", "0b1", "5\t"):
            self.check(text, None)

    def test_words(self):
        for text in ("ann", "five", "None", "True", "5a", "a5"):
            self.check(text, None)


class WholeNumbers(unittest.TestCase):

    def test_bounds(self):
        for number in range(-3, 10):
            self.assertIs(is_whole(number, 1, 5), 1 <= number <= 5)

    def test_truths_and_other_things_are_none(self):
        for thing in (True, False, None, 1.0, "1", [1], (1,), {}, object(), 1 + 0j):
            with self.subTest(thing=thing):
                self.assertIs(is_whole(thing, 0, 5), False)


if __name__ == "__main__":
    unittest.main()
