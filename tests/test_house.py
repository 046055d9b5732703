"""10.2 to 10.4: the house, its rows, refusals and answers, with 0.2 for it, and the whole program by its texts."""

import unittest
from itertools import permutations

from askorder.book import Book
from askorder.errors import BadRow
from askorder.house import House, run
from askorder.lines import line_of
from askorder.parts import parts
from askorder.rings import top_ring
from askorder.tables import votes_for
from askorder.weighing import weighing
from kinds import KINDS, led_to
from samples import (
    FOUR, SEVEN, check_refused, crowns_by_words, few_tables, made_odd, nested_tables, order_number, some_orders,
    some_votes, table_of_rings, thin_ring, top_by_words,
)

MOST = 10 ** 30
EIGHT = "oak elm ash fir yew bay box may".split()
TREES = EIGHT[:3]

# Of three things: oak beats elm, elm beats ash, ash beats oak.
ROUND = ["vote 3 oak elm ash", "vote 4 elm ash oak", "vote 4 ash oak elm"]

# One of each row that wants a table, good for oak, elm and ash.
TABLE_ROWS = [
    "beats oak elm", "top", "uncovered", "crowns", "weights", "plain oak elm ash", "ahead oak elm ash",
    "rest oak elm ash", "chair plain oak elm ash", "chair ahead oak elm ash", "chair rest oak elm ash", "line", "parts",
]


def vote_row(ballot, names):
    return " ".join(["vote", str(ballot[0])] + [names[thing] for thing in ballot[1]])


def house_with(votes, names):
    house = House(names)
    for ballot in votes:
        house.ask(vote_row(ballot, names))
    return house


def seen(house):
    book = house.book()
    return (book.many(), book.numbers(), book.votes(), book.left())


def answers(names, rows):
    """The rows of the answer to a text with these names and rows."""
    text = run("\n".join(["things " + " ".join(names)] + rows))
    assert text == "" or text.endswith("\n")
    return text.split("\n")[:-1]


class FirstRow(unittest.TestCase):
    def test_texts_without_a_good_first_row(self):
        nine = EIGHT + ["gum"]
        for row in (
            "things", "things ", " things oak", "things  oak", "things oak ", "things oak  elm", "Things oak",
            "thing oak", "thingsoak", "oak", "top", "vote 1 oak", " ", "\t", "things\toak", "things oak\telm",
            "things oak oak", "things oak elm oak", "things Oak", "things oak elm1", "things abcdefghijklm",
            "things 1", "things oak /", "things " + " ".join(nine), "things " + " ".join(EIGHT + ["oak"]),
            "refused things",
        ):
            for text in (row, row + "\n", "\n\n" + row, row + "\nthings oak\nvote 1 oak", row + "\nvote 1 oak\ntop\n"):
                self.assertEqual(run(text), "refused things\n", repr(text))

    def test_another_row_stands_first(self):
        self.assertEqual(run("vote 1 oak\nthings oak\ntop\n"), "refused things\n")
        self.assertEqual(run(" \nthings oak\ntop\n"), "refused things\n")
        self.assertEqual(run("\nvote 1 oak\n"), "refused things\n")

    def test_no_row_at_all(self):
        for text in ("", "\n", "\n\n\n"):
            self.assertEqual(run(text), "refused things\n")

    def test_the_first_row_has_no_answer(self):
        for count in range(1, 9):
            row = "things " + " ".join(EIGHT[:count])
            for text in (row, row + "\n", "\n" + row, "\n\n" + row + "\n\n"):
                self.assertEqual(run(text), "")

    def test_names_like_other_words(self):
        names = ["things", "vote", "by", "plain", "barred", "z", "abcdefghijkl", "refused"]
        rows = ["vote 1 " + " ".join(names), "chair plain " + " ".join(names), "top"]
        self.assertEqual(answers(names, rows)[::2], ["ballot 0", "top things"])

    def test_a_second_first_row_is_no_row(self):
        self.assertEqual(answers(["oak"], ["things oak", "things"]), ["refused row", "refused row"])


class Rows(unittest.TestCase):
    def test_empty_rows_are_passed_over(self):
        rows = ["things oak elm", "vote 1 oak elm", "top", "foo"]
        wanted = "ballot 0\ntop oak\nrefused row\n"
        for between in ("\n", "\n\n", "\n\n\n"):
            for ahead in ("", "\n", "\n\n"):
                for behind in ("", "\n", "\n\n"):
                    self.assertEqual(run(ahead + between.join(rows) + behind), wanted)

    def test_a_row_of_blanks_alone_is_none_of_these(self):
        for row in (" ", "  ", "\t", " \t "):
            self.assertEqual(run("things oak\n" + row + "\nback\n"), "refused row\nrefused left\n")
            self.assertEqual(run("things oak\nback\n" + row), "refused left\nrefused row\n")

    def test_a_row_for_each_row_in_their_order(self):
        rows = ROUND + ["top", "top ", "back", "top", "foo", "back", "top"]
        self.assertEqual(answers(TREES, rows), [
            "ballot 0", "ballot 1", "ballot 2", "top oak elm ash", "refused row", "done", "top elm", "refused row",
            "done", "top oak",
        ])

    def test_texts_do_not_touch_one_another(self):
        for time in range(2):
            self.assertEqual(run("things oak\nvote 1 oak\nvote 1 oak\n"), "ballot 0\nballot 1\n")


class MakingAHouse(unittest.TestCase):
    def test_good_names(self):
        for count in range(1, 9):
            house = House(EIGHT[:count])
            self.assertIs(type(house.book()), Book)
            self.assertEqual(seen(house), (count, [], [], 0))

    def test_refused(self):
        for names in (
            [], EIGHT + ["gum"], ["oak", "oak"], ["oak", "elm", "oak"], [""], ["Oak"], ["oak", ""], ["oak", "elm "],
            ["oak elm"], ["oak\n"], ["1"], ["abcdefghijklm"], EIGHT[:7] + ["oak"], EIGHT[:7] + ["o1"],
        ):
            check_refused(self, BadRow, House, names)

    def test_the_list_of_names_may_be_changed_behind_it(self):
        names = list(TREES)
        house = House(names)
        self.assertEqual(names, TREES)
        names.reverse()
        names[0] = "gum"
        names.append("yew")
        self.assertEqual(house.ask("vote 1 oak elm ash"), "ballot 0")
        self.assertEqual(house.ask("top"), "top oak")
        names.clear()
        self.assertEqual(house.ask("parts"), "parts oak / elm / ash")

    def test_to_change_the_book_is_to_change_what_the_house_answers_by(self):
        house = House(TREES)
        book = house.book()
        self.assertIs(house.book(), book)
        self.assertEqual(book.put_in(3, (1, 2, 0)), 0)
        self.assertEqual(house.ask("top"), "top elm")
        self.assertEqual(house.ask("vote 4 ash elm oak"), "ballot 1")
        self.assertEqual((book.numbers(), book.votes()), ([0, 1], [(3, (1, 2, 0)), (4, (2, 1, 0))]))
        self.assertEqual(house.ask("raise 0 ash"), "done")
        self.assertEqual(book.votes(), [(3, (2, 1, 0)), (4, (2, 1, 0))])
        book.take_back()
        book.go_out(1)
        self.assertEqual(house.ask("top"), "top elm")
        self.assertEqual(house.ask("out 1"), "refused unknown")
        self.assertEqual(house.ask("back"), "done")
        self.assertEqual(book.numbers(), [0, 1])

    def test_two_houses_do_not_touch_one_another(self):
        one, other = House(TREES), House(TREES)
        one.ask("vote 1 oak elm ash")
        self.assertEqual(seen(other), (3, [], [], 0))
        self.assertEqual(other.ask("vote 1 elm oak ash"), "ballot 0")
        self.assertEqual((one.ask("top"), other.ask("top")), ("top oak", "top elm"))


class Changes(unittest.TestCase):
    def test_by_hand(self):
        house = House(TREES)
        self.assertEqual(house.ask("vote 3 elm ash oak"), "ballot 0")
        self.assertEqual(house.ask("vote " + str(MOST) + " oak ash elm"), "ballot 1")
        self.assertEqual(seen(house)[2], [(3, (1, 2, 0)), (MOST, (0, 2, 1))])
        self.assertEqual(house.ask("raise 1 elm"), "done")
        self.assertEqual(seen(house)[2], [(3, (1, 2, 0)), (MOST, (0, 1, 2))])
        self.assertEqual(house.ask("out 0"), "done")
        self.assertEqual(seen(house)[1:], ([1], [(MOST, (0, 1, 2))], 4))
        self.assertEqual([house.ask("back") for time in range(3)], ["done"] * 3)
        self.assertEqual(seen(house)[1:], ([0], [(3, (1, 2, 0))], 1))
        self.assertEqual(house.ask("vote 1 ash elm oak"), "ballot 2")

    def test_numbers_of_many_ballots(self):
        rows = [vote_row(ballot, EIGHT) for ballot in some_votes(8, 99, 5)]
        told = answers(EIGHT, rows + ["vote 1 " + " ".join(EIGHT), "out 98", "back"])
        self.assertEqual(told, [f"ballot {number}" for number in range(99)] + ["refused many", "done", "done"])


class Refusals(unittest.TestCase):
    def check_answers(self, house, answer, *rows):
        """Each of the rows is answered so, and behind it all stands as it stood."""
        before = seen(house)
        for row in rows:
            with self.subTest(row=row):
                self.assertEqual(house.ask(row), answer)
                self.assertEqual(house.ask(row), answer)
                self.assertEqual(seen(house), before)

    def house(self):
        return house_with([(3, (0, 1, 2)), (4, (1, 2, 0)), (4, (2, 0, 1))], TREES)

    def full_house(self):
        return house_with([(1, (0, 1, 2))] * 99, TREES)

    def test_rows_that_are_none(self):
        for house in (House(TREES), self.house(), self.full_house()):
            self.check_answers(
                house, "refused row", "", " ", "top ", " top", "top oak", "tops", "vote", "vote x oak elm ash",
                "vote 01 oak elm ash", "vote 1  oak elm ash", "vote 1 oak elm  ash", "vote 1 oak elm Ash", "out",
                "out oak", "out 0 0", "out 00", "raise 0", "raise oak 0", "raise 0 oak elm", "back 1", "back ",
                "beats oak", "beats oak elm ash", "beats oak 1", "plain oak elm ash ", "rest oak 1",
                "ahead  oak elm ash", "chair", "chair oak elm ash", "chair Plain oak elm ash",
                "chair standing oak elm ash", "chair plain 1",
                "line oak", "parts oak", "weights 1", "crowns  ", "uncovered\t", "top\n", "vote -1 oak elm ash",
                "vote " + "1" * 32 + " oak elm ash", "things oak elm ash",
            )

    def test_bad_rows_go_ahead_of_all_others(self):
        # Each has a name that is unknown, or a table is wanted that there is not, besides.
        for house in (House(TREES), self.house(), self.full_house()):
            self.check_answers(
                house, "refused row", "beats gum Gum", "beats Oak gum", "vote 00 gum", "vote 0 gum gum Gum",
                "raise 01 gum", "raise 77 Gum", "out 077", "plain gum 1", "ahead gum gum/", "rest  gum",
                "chair most gum", "chair plain gum gum Gum", "chair gum oak", "line gum", "beats gum gum gum",
            )

    def test_unknown_names(self):
        for house in (House(TREES), self.house(), self.full_house()):
            self.check_answers(
                house, "refused unknown", "beats oak gum", "beats gum oak", "beats gum gum", "raise 0 gum",
                "raise 77 gum", "vote 1 oak elm gum", "vote 1 gum elm ash", "vote 0 gum", "vote 0 oak oak gum",
                "vote " + "9" * 31 + " gum", "plain oak elm gum", "plain gum", "ahead gum oak", "rest oak oak oak gum",
                "chair plain oak elm gum", "chair ahead gum", "chair rest oak elm ash gum", "vote 1 oa elm ash",
                "vote 1 oakk elm ash",
            )

    def test_unknown_numbers(self):
        house = self.house()
        house.ask("out 1")
        self.check_answers(house, "refused unknown", "out 1", "out 3", "out " + "9" * 31, "raise 1 oak", "raise 3 oak")
        self.check_answers(House(TREES), "refused unknown", "out 0", "raise 0 oak")

    def test_even_where_a_table_is_wanted(self):
        two = House(TREES)
        two.ask("vote 2 oak elm ash")
        both = house_with([(1, (0, 1, 2)), (MOST - 1, (2, 1, 0))], TREES)
        for house in (House(TREES), two, both):
            self.check_answers(house, "refused even", *TABLE_ROWS)

    def test_even_goes_ahead_of_order(self):
        for house in (House(TREES), house_with([(2, (0, 1, 2))], TREES)):
            for first in ("plain", "ahead", "rest", "chair plain", "chair ahead", "chair rest"):
                self.check_answers(
                    house, "refused even", first, first + " oak", first + " oak oak oak", first + " oak elm ash oak",
                    "beats oak oak",
                )

    def test_order(self):
        house = self.house()
        for first in ("plain", "ahead", "rest", "chair plain", "chair ahead", "chair rest", "vote 1", "vote 0",
                      "vote " + str(MOST + 1)):
            self.check_answers(
                house, "refused order", first, first + " oak", first + " oak elm", first + " oak oak oak",
                first + " oak elm oak", first + " oak elm ash oak", first + " oak elm ash oak elm ash",
            )
        self.check_answers(self.full_house(), "refused order", "vote 1", "vote 0 oak elm", "vote 1 oak elm elm")

    def test_number(self):
        for house in (House(TREES), self.house(), self.full_house()):
            self.check_answers(
                house, "refused number", "vote 0 oak elm ash", f"vote {MOST + 1} oak elm ash",
                "vote " + "9" * 31 + " ash elm oak",
            )
        self.assertEqual(House(TREES).ask(f"vote {MOST} oak elm ash"), "ballot 0")
        self.assertEqual(House(TREES).ask("vote 1 oak elm ash"), "ballot 0")

    def test_the_hundredth_ballot(self):
        house = self.full_house()
        self.check_answers(house, "refused many", "vote 1 oak elm ash", f"vote {MOST} ash elm oak")
        self.assertEqual(house.ask("out 5"), "done")
        self.assertEqual(house.ask("vote 1 oak elm ash"), "ballot 99")
        self.check_answers(house, "refused many", "vote 1 oak elm ash")

    def test_nothing_left(self):
        self.check_answers(House(TREES), "refused left", "back")
        self.check_answers(self.house(), "refused left", "raise 0 oak", "raise 1 elm", "raise 2 ash")
        house = self.house()
        self.assertEqual([house.ask("back") for time in range(4)], ["done"] * 3 + ["refused left"])


class Answers(unittest.TestCase):
    def check_answer(self, house, row, answer):
        self.assertEqual(house.ask(row), answer)

    def test_a_round_of_three(self):
        self.assertEqual(answers(TREES, ROUND + TABLE_ROWS)[3:8], [
            "yes", "top oak elm ash", "uncovered oak elm ash", "crowns oak elm ash", "weights 1 1 1",
        ])
        self.assertEqual(answers(TREES, ROUND + ["plain oak elm ash", "ahead oak elm ash", "rest oak elm ash"])[3:], [
            "ash", "elm", "oak",
        ])
        self.assertEqual(answers(TREES, ROUND + ["line", "parts"])[3:], ["barred", "parts oak / elm / ash"])

    def test_beats(self):
        house = house_with([(3, (0, 1, 2)), (4, (1, 2, 0)), (4, (2, 0, 1))], TREES)
        for one in range(3):
            for other in range(3):
                wanted = "yes" if (other - one) % 3 == 1 else "no"
                self.check_answer(house, f"beats {TREES[one]} {TREES[other]}", wanted)

    def test_one_thing(self):
        rows = ["vote 1 oak", "beats oak oak", "top", "uncovered", "crowns", "weights", "plain oak", "ahead oak",
                "rest oak", "chair plain oak", "chair ahead oak", "chair rest oak", "line", "parts"]
        self.assertEqual(answers(["oak"], rows), [
            "ballot 0", "no", "top oak", "uncovered oak", "crowns oak", "weights 1", "oak", "oak", "oak", "oak by oak",
            "oak by oak", "oak by oak", "line oak", "parts oak",
        ])

    def test_seven_things_in_their_order(self):
        house = house_with(votes_for(SEVEN), EIGHT[:7])
        self.check_answer(house, "top", "top oak elm ash fir yew bay box")
        self.check_answer(house, "uncovered", "uncovered oak fir yew bay box")
        self.check_answer(house, "crowns", "crowns oak yew bay box")
        self.check_answer(house, "weights", "weights 1 0 0 0 0 1 1")
        self.check_answer(house, "parts", "parts oak / elm / ash / fir / yew / bay / box")

    def test_parts_of_several_things(self):
        self.check_answer(house_with(votes_for(FOUR), EIGHT[:4]), "parts", "parts oak / elm ash / fir")
        house = house_with(votes_for(table_of_rings((3, 1))), EIGHT[:4])
        told = house.ask("parts").split(" / ")
        self.assertEqual([len(words.split(" ")) for words in told], [4, 1])

    def test_line_and_barred(self):
        house = House(TREES)
        house.ask("vote 3 oak elm ash")
        house.ask("vote 4 elm ash oak")
        house.ask("vote 2 elm oak ash")
        self.assertIn(house.ask("line"), ("line oak elm ash", "line ash elm oak"))
        house.ask("vote 2 ash oak elm")
        self.check_answer(house, "line", "barred")

    def check_table_answers(self, table, votes, names):
        house = house_with(votes, names)

        def row(word, things):
            return " ".join([word] + [names[thing] for thing in things])

        self.check_answer(house, "top", row("top", top_by_words(table)))
        self.check_answer(house, "crowns", row("crowns", crowns_by_words(table)))
        self.check_answer(house, "weights", " ".join(["weights"] + [str(weight) for weight in weighing(table)]))
        self.check_answer(house, "parts", row("parts", parts(table)[0]) + "".join(
            [row(" /", part) for part in parts(table)[1:]]))
        for order in some_orders(len(table), 4)[:6]:
            for kind in KINDS:
                self.check_answer(house, row(kind, order), names[led_to(table, kind, order)])

    def test_tables_of_all_sizes(self):
        for table in few_tables() + nested_tables():
            self.check_table_answers(table, votes_for(table), EIGHT[:len(table)])

    def test_lines_of_all_sizes(self):
        for many in range(1, 9):
            names = EIGHT[:many]
            for ballots in (1, 2, 3):
                for seed in range(3):
                    votes = made_odd(some_votes(many, ballots, seed))
                    paper = line_of(votes, many)
                    words = ["line"] + [names[thing] for thing in paper[1]] if paper[0] == "line" else ["barred"]
                    self.check_answer(house_with(votes, names), "line", " ".join(words))


class WholeProgram(unittest.TestCase):
    """The answers to texts with votes, set against one another by 5.1 to 5.5, 7.2 and 9.3."""

    def some_texts(self):
        families = [(votes_for(table), len(table)) for table in few_tables()[::4] + [FOUR, SEVEN, thin_ring(4)]]
        for many in range(1, 9):
            families.append((made_odd(some_votes(many, 5, many)), many))
        return families

    def asked(self, votes, many, rows):
        names = EIGHT[:many]
        return answers(names, [vote_row(ballot, names) for ballot in votes] + rows)[len(votes):]

    def standings(self, votes, many, more=()):
        """The sets of names that are in top, uncovered, crowns, and have weight, behind some more rows."""
        rows = list(more) + ["top", "uncovered", "crowns", "weights"]
        told = self.asked(votes, many, rows)[len(more):]
        weights = told.pop().split(" ")[1:]
        return [set(row.split(" ")[1:]) for row in told] + [{EIGHT[at] for at in range(many) if weights[at] != "0"}]

    def test_top_uncovered_crowns_and_weights(self):
        for votes, many in self.some_texts():
            top, open_ones, crowned, heavy = self.standings(votes, many)
            self.assertTrue(crowned and crowned <= open_ones <= top <= set(EIGHT[:many]))
            self.assertTrue(heavy and heavy <= open_ones)
            self.assertEqual(len(heavy) % 2, 1)

    def test_the_chair_has_the_first_of_the_wish_that_can_be_had_by_an_order_that_brings_it(self):
        for votes, many in self.some_texts():
            top, open_ones, crowned, heavy = self.standings(votes, many)
            for kind, had in zip(KINDS, (top, crowned, top)):
                for number in range(4):
                    wish = [EIGHT[thing] for thing in order_number(many, number * 10007 + many)]
                    best, by, *order = self.asked(votes, many, [f"chair {kind} " + " ".join(wish)])[0].split(" ")
                    self.assertEqual(best, next(name for name in wish if name in had))
                    self.assertEqual((by, sorted(order)), ("by", sorted(wish)))
                    self.assertEqual(self.asked(votes, many, [f"{kind} " + " ".join(order)]), [best])

    def test_all_orders_bring_just_what_can_be_had(self):
        for votes, many in self.some_texts():
            if many <= 4:
                top, open_ones, crowned, heavy = self.standings(votes, many)
                orders = [" ".join(order) for order in permutations(EIGHT[:many])]
                for kind, had in zip(KINDS, (top, crowned, top)):
                    told = self.asked(votes, many, [f"{kind} {order}" for order in orders])
                    self.assertEqual(set(told), had)

    def test_beats_tells_the_table(self):
        for votes, many in self.some_texts():
            names = EIGHT[:many]
            rows = [f"beats {one} {other}" for one in names for other in names]
            told = self.asked(votes, many, rows + ["top"])
            marks = [answer == "yes" for answer in told[:-1]]
            table = [marks[many * one:many * one + many] for one in range(many)]
            self.assertEqual(told[-1], " ".join(["top"] + [names[thing] for thing in top_ring(table)]))

    def test_what_raising_keeps(self):
        for votes, many in self.some_texts():
            before = self.standings(votes, many)
            for number in range(0, len(votes), 6):
                for thing in votes[number][1]:
                    row = f"raise {number} {EIGHT[thing]}"
                    best = thing == votes[number][1][0]
                    self.assertEqual(self.asked(votes, many, [row]), ["refused left" if best else "done"])
                    for was, stays in zip(before, self.standings(votes, many, [row])):
                        self.assertTrue(EIGHT[thing] in stays or EIGHT[thing] not in was)


if __name__ == "__main__":
    unittest.main()
