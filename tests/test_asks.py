"""10.1, 10.3 and 10.4 as far as a row's own words go, with 0.5 and 0.6 for them."""

import unittest

from askorder.asks import row_asked
from askorder.errors import BadRow
from samples import check_kept, check_refused

MOST = 10 ** 30

# Rows and what they tell; in each list the last word is needed, and one more is too many.
FIXED = [
    ("out 0", ("out", 0)),
    ("out 17", ("out", 17)),
    ("raise 3 oak", ("raise", 3, "oak")),
    ("raise 0 raise", ("raise", 0, "raise")),
    ("back", ("back",)),
    ("beats oak elm", ("beats", "oak", "elm")),
    ("beats oak oak", ("beats", "oak", "oak")),
    ("top", ("top",)),
    ("uncovered", ("uncovered",)),
    ("crowns", ("crowns",)),
    ("weights", ("weights",)),
    ("line", ("line",)),
    ("parts", ("parts",)),
]

# Rows that may go on with names, and what they tell without any.
OPEN = [
    ("vote 3", ("vote", 3)),
    ("vote 0", ("vote", 0)),
    ("vote 1" + "0" * 30, ("vote", MOST)),
    ("vote " + "9" * 31, ("vote", 10 ** 31 - 1)),
    ("plain", ("plain",)),
    ("ahead", ("ahead",)),
    ("rest", ("rest",)),
    ("chair plain", ("chair", "plain")),
    ("chair ahead", ("chair", "ahead")),
    ("chair rest", ("chair", "rest")),
]

NAMES = [
    (), ("oak",), ("oak", "elm"), ("elm", "oak", "elm"), ("a",) * 9, ("plain", "by", "chair"), ("abcdefghijkl", "z"),
]

NO_NAMES = ("Oak", "oak1", "1", "0", "abcdefghijklm", "o-k", "/", "oak\t", "\toak", "oak\n", "\n", "\t", "")
NO_NUMBERS = ("00", "01", "-1", "+1", "x", "oak", "1.", "1\n", "\t1", "1\t", "9" * 32, "0" * 31, "")


class Rows(unittest.TestCase):
    def check_row(self, row, wanted):
        told = row_asked(row)
        self.assertEqual(told, wanted)
        self.assertEqual([type(value) for value in told], [type(value) for value in wanted])

    def test_rows_of_just_their_words(self):
        for row, wanted in FIXED:
            self.check_row(row, wanted)

    def test_rows_that_go_on_with_names(self):
        for row, wanted in OPEN:
            for names in NAMES:
                self.check_row(" ".join((row,) + names), wanted + (names,))

    def test_every_first_word_is_among_them(self):
        told = {wanted[0] for row, wanted in FIXED + OPEN}
        words = "vote out raise back beats top uncovered crowns weights plain ahead rest chair line parts"
        self.assertEqual(told, set(words.split()))


class Refused(unittest.TestCase):
    def check_bad(self, *rows):
        for row in rows:
            with self.subTest(row=row):
                check_refused(self, BadRow, row_asked, row)

    def test_one_word_too_many(self):
        for row, wanted in FIXED:
            for more in ("oak", "1", "0", "plain", "back"):
                self.check_bad(row + " " + more)

    def test_one_word_too_few(self):
        self.check_bad("vote", "out", "raise", "raise 3", "raise oak", "beats", "beats oak", "chair")

    def test_no_name_where_one_is_wanted(self):
        for word in NO_NAMES:
            self.check_bad("raise 3 " + word, "beats oak " + word, "beats " + word + " oak")
            for row, wanted in OPEN:
                self.check_bad(row + " " + word, row + " oak " + word, row + " " + word + " oak")

    def test_no_number_where_one_is_wanted(self):
        for word in NO_NUMBERS:
            self.check_bad("vote " + word, "vote " + word + " oak", "out " + word, "raise " + word + " oak")

    def test_another_kind(self):
        for word in ("", "Plain", "plan", "plainx", "xplain", "standing", "top", "1", "plain\t", "\nrest", "oak"):
            self.check_bad("chair " + word, "chair " + word + " oak elm")

    def test_another_first_word(self):
        for word in ("", "things", "Top", "TOP", "tops", "to", "votes", "ballot", "oak", "1", "\ttop", "top\t", "top\n",
                     "\nback", "refused", "line\n", "quit"):
            self.check_bad(word, word + " oak", word + " 1 oak", word + " oak elm")

    def test_blanks(self):
        self.check_bad("", " ", "  ", "   ", "\t", "\n")
        for row, wanted in FIXED + OPEN:
            self.check_bad(" " + row, row + " ", "  " + row, row + "  ", "\t" + row, row + "\t", row + "\n")
            if " " in row:
                self.check_bad(row.replace(" ", "  ", 1), row.replace(" ", "\t", 1), row.replace(" ", "\n", 1))
        self.check_bad("plain oak  elm", "vote 1 oak  elm", "chair plain oak  elm", "beats oak  elm", "raise 1  oak")


class Kept(unittest.TestCase):
    def test_asked_again_the_answer_is_the_same(self):
        for row, wanted in FIXED + OPEN:
            check_kept(self, row_asked, row)


if __name__ == "__main__":
    unittest.main()
