"""6.1 to 6.3: lines, what bars them, and the papers, with 0.2 to 0.6 for them."""

import unittest
from itertools import combinations, combinations_with_replacement, permutations

from askorder.errors import BadBallot, BadOrder, Even
from askorder.lines import all_fit, fits, line_of, shows_bar
from onlines import (
    bars_by_words, fits_by_words, lines_by_words, order_on_line, orders_on_line, some_line, votes_on_line,
)
from samples import (
    bad_votes, check_kept, check_refused, even_votes, made_odd, no_orders, order_number, some_orders, some_votes,
)

MOST = 10 ** 30

# Each puts another one of the three last.
LASTS = [(1, (0, 1, 2)), (3, (1, 2, 0)), (1, (2, 0, 1))]

# The first puts 0 ahead of 2, 2 ahead of 1, and 3 ahead of 2; the second has 0 and 1 exchanged.
TURNED = [(2, (3, 0, 2, 1)), (1, (1, 3, 2, 0))]


def one_exchanged(given, others):
    """All tuples that come of this one by putting another value into one place, none twice."""
    changed = []
    for place in range(len(given)):
        for other in others:
            if other not in given:
                changed.append(given[:place] + (other,) + given[place + 1:])
    return changed


def voiced(orders):
    """One voice for each order, and one more where that is even."""
    return made_odd([(1, order) for order in orders])


class Fits(unittest.TestCase):
    def test_by_hand(self):
        self.assertIs(fits((0,), [0]), True)
        self.assertIs(fits((1, 0), [0, 1]), True)
        self.assertIs(fits((1, 0, 2), [0, 1, 2]), True)
        self.assertIs(fits((0, 1, 2), [2, 1, 0]), True)
        self.assertIs(fits((0, 2, 1), [0, 1, 2]), False)
        self.assertIs(fits((2, 0, 1), [0, 1, 2]), False)
        self.assertIs(fits((3, 4, 2, 1, 5, 0), [0, 1, 2, 3, 4, 5]), True)
        self.assertIs(fits((3, 4, 2, 1, 0, 5), [0, 1, 2, 3, 4, 5]), True)
        self.assertIs(fits((3, 4, 1, 2, 5, 0), [0, 1, 2, 3, 4, 5]), False)
        self.assertIs(fits((3, 4, 2, 1, 0, 5), [5, 4, 3, 2, 0, 1]), False)

    def test_every_order_and_every_line_of_few_things(self):
        for many in range(1, 5):
            for order in permutations(range(many)):
                for line in permutations(range(many)):
                    self.assertIs(fits(order, list(line)), fits_by_words(order, line))

    def test_just_so_many_orders_fit_a_line(self):
        for many in range(1, 7):
            line = some_line(many, many)
            fitting = [order for order in permutations(range(many)) if fits(order, line)]
            self.assertEqual(len(fitting), 2 ** (many - 1))
            self.assertEqual(fitting, orders_on_line(line))

    def test_orders_of_many_things(self):
        for many in range(5, 9):
            for seed in range(6):
                line = some_line(many, seed)
                for order in orders_on_line(line)[seed::7]:
                    self.assertIs(fits(order, line), True)
                    self.assertIs(fits(order, line[::-1]), True)
                    for place in range(many - 1):
                        other = list(line)
                        other[place], other[place + 1] = line[place + 1], line[place]
                        self.assertIs(fits(order, other), fits_by_words(order, other))

    def test_only_the_last_of_the_numbers_fails(self):
        for many in range(3, 9):
            line = list(range(many))
            order = tuple(range(1, many - 1)) + (many - 1, 0)
            self.assertTrue(fits(order, line))
            self.assertFalse(fits((0, 2) + (1,) + tuple(range(3, many)), line))
            self.assertFalse(fits(tuple(range(many - 2)) + (many - 1, many - 2), line))

    def test_lines_that_do_not_tell_each_thing_once(self):
        for many in range(1, 9):
            for seed in range(3):
                order = order_number(many, seed * 5003)
                for line in no_orders(many):
                    check_refused(self, BadOrder, fits, order, line)


class AllFit(unittest.TestCase):
    def test_by_hand(self):
        votes = [(1, (1, 0, 2)), (2, (0, 1, 2)), (2, (1, 2, 0))]
        self.assertIs(all_fit(votes, 3, [0, 1, 2]), True)
        self.assertIs(all_fit(votes, 3, [2, 1, 0]), True)
        self.assertIs(all_fit(votes, 3, [0, 2, 1]), False)
        self.assertIs(all_fit(votes, 3, [1, 0, 2]), False)
        self.assertIs(all_fit([(1, (0,))], 1, [0]), True)
        for line in permutations(range(3)):
            self.assertIs(all_fit(LASTS, 3, list(line)), False)

    def test_wherever_the_one_that_does_not_fit_stands(self):
        line = [0, 1, 2, 3]
        good = [(1, (1, 2, 0, 3)), (1, (2, 3, 1, 0))]
        self.assertTrue(all_fit(good + [(1, (0, 1, 2, 3))], 4, line))
        for place in range(3):
            votes = good[:place] + [(1, (0, 1, 3, 2))] + good[place:]
            self.assertFalse(all_fit(votes, 4, line))

    def test_votes_of_all_sizes(self):
        for many in range(1, 9):
            for seed in range(4):
                line = some_line(many, seed)
                votes = votes_on_line(line, 5, seed)
                self.assertIs(all_fit(votes, many, line), True)
                for other in some_orders(many, 20):
                    wanted = all(fits_by_words(order, other) for voices, order in votes)
                    self.assertIs(all_fit(votes, many, other), wanted)

    def test_bad_ballots_go_ahead_of_even_and_of_lines_that_are_none(self):
        for many in range(1, 9):
            for votes in bad_votes(many):
                for line in (list(range(many)), [], [0] * (many + 1)):
                    check_refused(self, BadBallot, all_fit, votes, many, line)

    def test_even_goes_ahead_of_lines_that_are_none(self):
        for many in range(1, 9):
            for votes in even_votes(many):
                for line in (list(range(many)), [], [0] * (many + 1)):
                    check_refused(self, Even, all_fit, votes, many, line)

    def test_lines_that_do_not_tell_each_thing_once(self):
        for many in range(1, 9):
            for line in no_orders(many):
                check_refused(self, BadOrder, all_fit, [(1, tuple(range(many)))], many, line)
                check_refused(self, BadOrder, all_fit, made_odd(some_votes(many, 4, 3)), many, line)


class LineOf(unittest.TestCase):
    def check_line(self, votes, many, line):
        self.assertIs(type(line), list)
        self.assertEqual(sorted(line), list(range(many)))
        self.assertTrue(all(fits_by_words(order, line) for voices, order in votes))
        self.assertTrue(all_fit(votes, many, line))

    def check_bar(self, votes, many, paper):
        kind, things, places = paper
        wanted = {"lasts": (3, 3), "turned": (4, 2)}[kind]
        self.assertIs(type(things), tuple)
        self.assertIs(type(places), tuple)
        self.assertEqual((len(things), len(places)), wanted)
        self.assertEqual((len(set(things)), len(set(places))), wanted)
        self.assertTrue(all(0 <= thing < many for thing in things))
        self.assertTrue(all(0 <= place < len(votes) for place in places))
        if kind == "lasts":
            self.assertEqual(list(things), sorted(things))
        self.assertTrue(bars_by_words(votes, paper))
        self.assertIs(shows_bar(votes, paper), True)

    def check_paper(self, votes, many):
        paper = line_of(votes, many)
        self.assertIs(type(paper), tuple)
        if paper[0] == "line":
            self.assertEqual(len(paper), 2)
            self.check_line(votes, many, paper[1])
        else:
            self.check_bar(votes, many, paper)
        return paper[0]

    def test_by_hand(self):
        self.assertEqual(line_of([(1, (0,))], 1), ("line", [0]))
        self.assertIn(line_of([(1, (0, 1)), (2, (1, 0))], 2), (("line", [0, 1]), ("line", [1, 0])))
        self.assertEqual(line_of(LASTS, 3), ("lasts", (0, 1, 2), (1, 2, 0)))
        self.assertIn(line_of(TURNED, 4), (("turned", (0, 2, 1, 3), (0, 1)), ("turned", (1, 2, 0, 3), (1, 0))))

    def test_one_or_two_things_always_lie_on_a_line(self):
        for ballots in range(1, 6):
            self.assertEqual(line_of([(1, (0,))] * (2 * ballots - 1), 1), ("line", [0]))
            self.assertEqual(self.check_paper(made_odd(some_votes(2, ballots, ballots)), 2), "line")

    def test_all_sets_of_orders_of_three_things(self):
        orders = list(permutations(range(3)))
        for count in range(1, 7):
            for some in combinations(orders, count):
                votes = voiced(some)
                self.assertEqual(self.check_paper(votes, 3) == "line", lines_by_words(votes, 3) != [])

    def test_all_sets_of_up_to_three_orders_of_four_things(self):
        orders = list(permutations(range(4)))
        kinds = []
        for some in combinations_with_replacement(orders, 3):
            votes = voiced(some)
            kind = self.check_paper(votes, 4)
            self.assertEqual(kind == "line", lines_by_words(votes, 4) != [])
            kinds.append(kind)
        self.assertEqual(set(kinds), {"line", "lasts", "turned"})

    def test_votes_on_a_line_of_all_sizes(self):
        for many in range(1, 9):
            for ballots in (1, 2, 3, 7, 20):
                for seed in range(4):
                    votes = votes_on_line(some_line(many, seed), ballots, seed)
                    self.assertEqual(self.check_paper(votes, many), "line")

    def test_all_the_orders_on_a_line_at_once(self):
        for many in range(1, 8):
            line = some_line(many, 3)
            paper = line_of(voiced(orders_on_line(line)), many)
            self.assertIn(paper, (("line", line), ("line", line[::-1])))

    def test_one_ballot_more_that_fits_no_more(self):
        for many in range(3, 8):
            line = some_line(many, 5)
            for other in some_orders(many, 15):
                kind = self.check_paper(voiced(orders_on_line(line) + [tuple(other)]), many)
                self.assertEqual(kind == "line", fits_by_words(other, line))

    def test_two_ballots_of_all_sizes_are_never_barred_by_three(self):
        for many in range(4, 9):
            kinds = set()
            for seed in range(30):
                votes = [(2, order_number(many, seed * 997)), (1, order_number(many, seed * 6007 + 13))]
                kinds.add(self.check_paper(votes, many))
            self.assertEqual(kinds - {"line"}, {"turned"})

    def test_barred_by_two_alone_among_many_ballots(self):
        for many in range(4, 9):
            rest = tuple(range(4, many))
            votes = [(1, order + rest) for voices, order in TURNED] * 49 + [(MOST - 1, TURNED[0][1] + rest)]
            self.assertEqual(len(votes), 99)
            self.assertEqual(self.check_paper(votes, many), "turned")

    def test_votes_of_all_sizes_set_against_all_lines(self):
        for many in range(3, 6):
            for ballots in (2, 3, 4, 9):
                for seed in range(6):
                    votes = made_odd(some_votes(many, ballots, seed))
                    self.assertEqual(self.check_paper(votes, many) == "line", lines_by_words(votes, many) != [])

    def test_the_most_ballots_with_the_most_voices(self):
        for many in (1, 3, 5, 8):
            votes = [(MOST - voices, order) for voices, order in some_votes(many, 98, many)]
            odd = sum(voices for voices, order in votes) % 2
            for last in (order_number(many, 0), order_number(many, 40319)):
                self.check_paper(votes + [(MOST - 1 + odd, last)], many)
            line = some_line(many, 1)
            on_line = [(MOST, order) for voices, order in votes_on_line(line, 98, 1)]
            kind = self.check_paper(on_line + [(MOST - 1, tuple(line))], many)
            self.assertEqual(kind, "line")

    def test_the_last_ballot_of_many_bars(self):
        for many in range(3, 9):
            rest = tuple(range(3, many))
            votes = [(1, (0, 1, 2) + rest)] * 50 + [(1, (1, 2, 0) + rest)] * 48 + [(MOST - 1, (2, 0, 1) + rest)]
            self.assertEqual(self.check_paper(votes, many), "lasts")
            self.assertEqual(line_of(votes, many)[2][1], 98)

    def test_refused(self):
        for many in range(1, 9):
            for votes in bad_votes(many):
                check_refused(self, BadBallot, line_of, votes, many)
            for votes in even_votes(many):
                check_refused(self, Even, line_of, votes, many)


class ShowsBar(unittest.TestCase):
    def test_by_hand(self):
        self.assertIs(shows_bar(LASTS, ("lasts", (0, 1, 2), (1, 2, 0))), True)
        for places in permutations(range(3)):
            if places != (1, 2, 0):
                self.assertIs(shows_bar(LASTS, ("lasts", (0, 1, 2), places)), False)
        for things in permutations(range(4)):
            for places in ((0, 1), (1, 0)):
                wanted = (things, places) in (((0, 2, 1, 3), (0, 1)), ((1, 2, 0, 3), (1, 0)))
                self.assertIs(shows_bar(TURNED, ("turned", things, places)), wanted)

    def test_each_of_the_six_that_turned_wants(self):
        good = [(3, (0, 3, 1, 2)), (2, (3, 2, 1, 0))]
        paper = ("turned", (0, 1, 2, 3), (0, 1))
        self.assertIs(shows_bar(good, paper), True)
        for first in ((3, 1, 0, 2), (3, 0, 2, 1), (0, 1, 2, 3), (0, 1, 3, 2), (3, 2, 1, 0)):
            self.assertIs(shows_bar([(3, first), good[1]], paper), False)
        for second in ((3, 1, 2, 0), (3, 2, 0, 1), (2, 1, 0, 3), (2, 1, 3, 0), (3, 0, 1, 2)):
            self.assertIs(shows_bar([good[0], (2, second)], paper), False)

    def test_all_papers_of_some_votes(self):
        for many in range(3, 6):
            for seed in range(2):
                votes = made_odd(some_votes(many, 4, seed))
                for things in combinations(range(many), 3):
                    for places in permutations(range(4), 3):
                        paper = ("lasts", things, places)
                        self.assertIs(shows_bar(votes, paper), bars_by_words(votes, paper))
                for things in permutations(range(many), 4):
                    for places in permutations(range(4), 2):
                        paper = ("turned", things, places)
                        self.assertIs(shows_bar(votes, paper), bars_by_words(votes, paper))

    def test_one_thing_or_place_exchanged(self):
        seen = {"lasts": set(), "turned": set()}
        for many in range(3, 9):
            for ballots in (2, 5, 9):
                for seed in range(8):
                    votes = made_odd(some_votes(many, ballots, seed))
                    paper = line_of(votes, many)
                    if paper[0] != "line":
                        self.check_exchanged(votes, many, paper, seen[paper[0]])
        self.assertEqual(seen, {"lasts": {True, False}, "turned": {True, False}})

    def check_exchanged(self, votes, many, paper, seen):
        kind, things, places = paper
        for changed in one_exchanged(things, range(many)):
            if kind == "turned" or list(changed) == sorted(changed):
                other = (kind, changed, places)
                self.assertIs(shows_bar(votes, other), bars_by_words(votes, other))
                seen.add(bars_by_words(votes, other))
        for changed in one_exchanged(places, range(len(votes))):
            other = (kind, things, changed)
            self.assertIs(shows_bar(votes, other), bars_by_words(votes, other))
            seen.add(bars_by_words(votes, other))
        for changed in permutations(places):
            self.assertIs(shows_bar(votes, (kind, things, changed)), changed == places)

    def test_no_paper_bars_where_there_is_a_line(self):
        votes = votes_on_line([2, 0, 3, 1], 5, 4)
        for things in combinations(range(4), 3):
            for places in permutations(range(5), 3):
                self.assertIs(shows_bar(votes, ("lasts", things, places)), False)
        for things in permutations(range(4)):
            for places in permutations(range(5), 2):
                self.assertIs(shows_bar(votes, ("turned", things, places)), False)

    def test_a_line_bars_nothing(self):
        self.assertIs(shows_bar([(1, (0, 1, 2))], ("line", [0, 1, 2])), False)


class Kept(unittest.TestCase):
    def test_nothing_handed_in_changes_and_the_answer_stays(self):
        for many in range(1, 9):
            for seed in range(4):
                line = some_line(many, seed)
                on_line = votes_on_line(line, 5, seed)
                votes = made_odd(some_votes(many, 5, seed))
                check_kept(self, fits, order_on_line(line, 0, seed), list(line))
                check_kept(self, all_fit, list(on_line), many, list(line))
                check_kept(self, all_fit, list(votes), many, list(line))
                check_kept(self, line_of, list(on_line), many)
                check_kept(self, line_of, list(votes), many)
                paper = line_of(votes, many)
                if paper[0] != "line":
                    check_kept(self, shows_bar, list(votes), paper)


if __name__ == "__main__":
    unittest.main()
