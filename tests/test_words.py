"""10.1: names and numbers, with 0.5 and 0.6 for them."""

import unittest

from askorder.errors import BadRow
from askorder.words import is_name, number_of
from samples import check_kept, check_refused

# All signs of 0.4, and some beyond them.
SIGNS = [chr(code) for code in range(32, 127)] + ["\t", "\n", "\r", "\0", "\x7f", "\xe4", "\xb2", "\u0661", "\uff11"]
LETTERS = "abcdefghijklmnopqrstuvwxyz"
FIGURES = "0123456789"


def with_sign(word, sign):
    """The word with the sign put in: ahead, behind, and in its midst."""
    half = len(word) // 2
    return [sign + word, word + sign, word[:half] + sign + word[half:]]


class IsName(unittest.TestCase):
    def test_lengths(self):
        for length in range(15):
            for letter in "amz":
                self.assertIs(is_name(letter * length), 1 <= length <= 12)
        self.assertIs(is_name("abcdefghijkl"), True)
        self.assertIs(is_name("mnopqrstuvwxyz"[:12]), True)
        self.assertIs(is_name("abcdefghijklm"), False)
        self.assertIs(is_name("a" * 1000), False)

    def test_each_sign_alone(self):
        for sign in SIGNS:
            self.assertIs(is_name(sign), sign in LETTERS, repr(sign))

    def test_each_sign_in_a_word(self):
        for sign in SIGNS:
            for word in with_sign("beech", sign):
                self.assertIs(is_name(word), sign in LETTERS, repr(word))

    def test_by_hand(self):
        for word in ("oak", "things", "top", "by", "plain", "vote", "z"):
            self.assertIs(is_name(word), True)
        for word in ("", "Oak", "oaK", "OAK", "oak1", "1", "0", " oak", "oak ", "oak\t", "oak\n", "\noak", "o ak",
                     "o-ak", "o_ak", "/", "oak\nelm"):
            self.assertIs(is_name(word), False, repr(word))


class NumberOf(unittest.TestCase):
    def check_number(self, word, number):
        told = number_of(word)
        self.assertEqual(told, number)
        self.assertIs(type(told), int)

    def test_by_hand(self):
        self.check_number("0", 0)
        self.check_number("7", 7)
        self.check_number("10", 10)
        self.check_number("100", 100)
        self.check_number("1" + "0" * 30, 10 ** 30)

    def test_lengths(self):
        for length in range(1, 32):
            for figure in "159":
                self.check_number(figure * length, int(figure) * (10 ** length - 1) // 9)
            if length > 1:
                check_refused(self, BadRow, number_of, "0" * length)
                check_refused(self, BadRow, number_of, "0" + "1" * (length - 1))
        for length in (0, 32, 33, 100, 5000):
            check_refused(self, BadRow, number_of, "9" * length)
        check_refused(self, BadRow, number_of, "0" * 32)

    def test_each_sign_alone(self):
        for sign in SIGNS:
            if sign in FIGURES:
                self.check_number(sign, FIGURES.index(sign))
            else:
                check_refused(self, BadRow, number_of, sign)

    def test_each_sign_in_a_word(self):
        for sign in SIGNS:
            for word in with_sign("1234", sign):
                if sign in FIGURES and word[0] != "0":
                    self.check_number(word, int(word))
                else:
                    check_refused(self, BadRow, number_of, word)

    def test_wrong_words(self):
        for word in ("", "00", "01", "007", "-1", "-0", "+1", "1.0", "1e3", "1_000", "0x10", " 1", "1 ", "1\n", "\t1",
                     "1 2", "one", "True", "None", "1,000", "0 ", "0\n"):
            check_refused(self, BadRow, number_of, word)


class Kept(unittest.TestCase):
    def test_asked_again_the_answer_is_the_same(self):
        for word in ("oak", "", "12", "a1"):
            check_kept(self, is_name, word)
        check_kept(self, number_of, "12")


if __name__ == "__main__":
    unittest.main()
