"""Points 2 and 5: what a whole number is, what writes a number, what writes a name."""

import itertools
import re
import unittest

from inkyears.words import is_name, is_number, is_whole

NUMBERS = [
    "0", "1", "9", "10", "42", "1000000", "-1", "-9", "-10", "-3000",
    "1234567890", "9999999999", "1000000000", "-1234567890", "-9999999999",
]
NO_NUMBERS = [
    "", "-", "--", "-0", "00", "000", "-00", "01", "007", "-01", "-007", "0000000000", "0123456789",
    "12345678901", "10000000000", "-12345678901", "-10000000000", "00000000001",
    "--1", "1-", "1-2", "12-34", "0-1", "-1-", "-1-2", "+1", "+0", "1_000", "1,000", "1.0", "1e3", "0x1",
    " ", " 1", "1 ", "1 2", "- 1", "-1 ", "\n", "1\n", "\n1", "-1\n", "1\n2", "0\n", "0 ", " 0", "-\n",
    "a", "one", "1a", "a1", "-a", "O", "l", "/", ":", "1/", "1:",
]
NAMES = ["a", "z", "m", "ab", "letter", "abcdefgh", "stuvwxyz", "zzzzzzzz", "aaaaaaaa"]
NO_NAMES = [
    "", "abcdefghi", "zzzzzzzzz", "abcdefghijklmnopqrstuvwxyz", "A", "Z", "Ab", "aB", "abcdefgH", "NAME",
    "1", "a1", "1a", "abc9", "-", "a-b", "-a", "a-", " ", " a", "a ", "a b", "\n", "a\n", "\na", "a\nb",
    "abcdefg\n", "abcdefgh\n", "_", "a_b", "`", "{", "a`", "a{", ".", "a.", "@", "[",
]
NUMBER_FORM = re.compile("0|-?[1-9][0-9]{0,9}")
NAME_FORM = re.compile("[a-z]{1,8}")


def short_texts(signs, most):
    for length in range(most + 1):
        for some in itertools.product(signs, repeat=length):
            yield "".join(some)


class WholeTest(unittest.TestCase):
    def test_ints_are_whole_numbers(self):
        for some in [0, 1, -1, 10 ** 6, -4000, 10 ** 29]:
            self.assertIs(is_whole(some), True)

    def test_truths_and_texts_are_none(self):
        for some in [True, False, "1", "", None, [], (1,)]:
            self.assertIs(is_whole(some), False)


class NumberTest(unittest.TestCase):
    def test_what_writes_a_number(self):
        for word in NUMBERS:
            with self.subTest(word=word):
                self.assertIs(is_number(word), True)

    def test_what_writes_none(self):
        for word in NO_NUMBERS:
            with self.subTest(word=word):
                self.assertIs(is_number(word), False)

    def test_one_to_ten_figures(self):
        for length in range(1, 15):
            self.assertIs(is_number("7" * length), length <= 10)
            self.assertIs(is_number("-" + "7" * length), length <= 10)
            self.assertIs(is_number("1" + "0" * (length - 1)), length <= 10)

    def test_each_number_as_python_writes_it(self):
        for number in list(range(-1200, 1201)) + [10 ** 10 - 1, 1 - 10 ** 10]:
            self.assertIs(is_number(str(number)), True)
        for number in [10 ** 10, -10 ** 10, 10 ** 29]:
            self.assertIs(is_number(str(number)), False)

    def test_all_short_texts(self):
        for word in short_texts("-019 \na", 5):
            self.assertIs(is_number(word), NUMBER_FORM.fullmatch(word) is not None, word)

    def test_each_sign(self):
        for sign in [chr(code) for code in range(32, 127)] + ["\n"]:
            for word in [sign, sign + "1", "1" + sign, "1" + sign + "1", "-" + sign]:
                self.assertIs(is_number(word), NUMBER_FORM.fullmatch(word) is not None, word)


class NameTest(unittest.TestCase):
    def test_what_writes_a_name(self):
        for word in NAMES:
            with self.subTest(word=word):
                self.assertIs(is_name(word), True)

    def test_what_writes_none(self):
        for word in NO_NAMES:
            with self.subTest(word=word):
                self.assertIs(is_name(word), False)

    def test_one_to_eight_letters(self):
        for length in range(13):
            self.assertIs(is_name("q" * length), 1 <= length <= 8)

    def test_all_short_texts(self):
        for word in short_texts("azA0- \n", 5):
            self.assertIs(is_name(word), NAME_FORM.fullmatch(word) is not None, word)

    def test_each_sign(self):
        for sign in [chr(code) for code in range(32, 127)] + ["\n"]:
            for word in [sign, sign + "a", "a" + sign, "a" + sign + "a", "abcdefg" + sign]:
                self.assertIs(is_name(word), NAME_FORM.fullmatch(word) is not None, word)


if __name__ == "__main__":
    unittest.main()
