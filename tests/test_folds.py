"""8.3 and 8.4: folding, joining, and what holds of a table and its pieces, with 0.2, 0.5 and 0.6 for them."""

import unittest
from copy import deepcopy
from fractions import Fraction

from askorder.covers import uncovered
from askorder.crowns import crowns
from askorder.errors import BadParts
from askorder.folds import folded, joined, places_of
from askorder.parts import parts
from askorder.rings import top_ring
from askorder.tables import part
from askorder.weighing import weighing
from samples import (
    FOUR, all_tables, check_kept, check_refused, few_tables, nested, nested_tables, partings, renumbered,
    some_tables, tables_of_all_sizes, tables_with_rings, thin_ring, together_by_words,
)

ONE = [[False]]
TWO = [[False, True], [False, False]]


def can_be_folded(table, pieces):
    return all(together_by_words(table, piece) for piece in pieces)


def foldings(table):
    """All ways to part the things of a table into pieces that stand together, each the other way round as well."""
    ways = [pieces for pieces in partings(list(range(len(table)))) if can_be_folded(table, pieces)]
    return ways + [[piece[::-1] for piece in reversed(pieces)] for pieces in ways]


def tables_and_pieces():
    pairs = []
    for table in all_tables(3) + all_tables(4) + all_tables(5)[::41] + nested_tables()[:5]:
        pairs.extend([(table, pieces) for pieces in foldings(table)])
    for table in tables_of_all_sizes() + nested_tables():
        pairs.append((table, parts(table)))
    return pairs


def wrong_pieces(many):
    """Lists of lists in which a piece is empty, or a thing stands twice, nowhere, or is none of so many."""
    good = list(range(many))
    alone = [[thing] for thing in good]
    wrong = [
        [], [[]], [good, []], [[], good], alone + [[]], [[]] + alone,
        [good, [0]], [[many - 1], good], [good, good], alone + [[0]], [good + [0]], [[many - 1] + good],
        [good[:-1]] if many > 1 else [[1]], [good[1:]] if many > 1 else [[-1]],
        [good + [many]], [good, [many]], [good + [-1]], [[-1], good], [good[:-1] + [many]], [[-1] + good[1:]],
        [[10 ** 40] + good], alone[:-1] + [[many]], alone[1:] + [[-1]], alone + [[10 ** 40]],
    ]
    if many > 1:
        wrong.extend([alone[:-1], alone[1:], alone[:-1] + [[0]], alone[:-1] + [[]], [[0, 0]] + alone[2:]])
    return wrong


def shares(table):
    weights = weighing(table)
    return [Fraction(weight, sum(weights)) for weight in weights]


class PlacesOf(unittest.TestCase):
    def test_by_hand(self):
        self.assertEqual(places_of([[0]], 1), [0])
        self.assertEqual(places_of([[1], [0]], 2), [1, 0])
        self.assertEqual(places_of([[4, 0], [2], [3, 1]], 5), [0, 2, 1, 2, 0])
        self.assertEqual(places_of([[2, 0, 1]], 3), [0, 0, 0])

    def test_all_partings(self):
        for many in range(1, 7):
            for pieces in partings(list(range(many))):
                for some in (pieces, [piece[::-1] for piece in pieces[::-1]]):
                    told = places_of(some, many)
                    self.assertIs(type(told), list)
                    self.assertEqual(len(told), many)
                    self.assertTrue(all(thing in some[place] for thing, place in enumerate(told)))

    def test_partings_of_eight_things(self):
        for pieces in partings(list(range(8)))[::37]:
            told = places_of(pieces, 8)
            self.assertTrue(all(thing in pieces[place] for thing, place in enumerate(told)))

    def test_refused(self):
        for many in range(1, 9):
            for pieces in wrong_pieces(many):
                with self.subTest(many=many, pieces=pieces):
                    check_refused(self, BadParts, places_of, pieces, many)

    def test_pieces_of_another_count_of_things(self):
        for many in range(1, 9):
            for other in range(1, 10):
                if other != many:
                    check_refused(self, BadParts, places_of, [[thing] for thing in range(other)], many)
                    check_refused(self, BadParts, places_of, [list(range(other))], many)


class Folded(unittest.TestCase):
    def test_by_hand(self):
        self.assertEqual(folded(ONE, [[0]]), ONE)
        self.assertEqual(folded(TWO, [[0, 1]]), ONE)
        self.assertEqual(folded(TWO, [[1], [0]]), [[False, False], [True, False]])
        # 1 and 2 of these four stand together: 0 beats them, they beat 3, 3 beats 0.
        self.assertEqual(folded(FOUR, [[0], [2, 1], [3]]), thin_ring(3))
        self.assertEqual(folded(FOUR, [[2, 1], [0], [3]]), renumbered(thin_ring(3), [1, 0, 2]))
        self.assertEqual(folded(FOUR, [[0, 1, 2, 3]]), ONE)

    def test_one_piece_beats_another_where_its_things_do(self):
        for table, pieces in tables_and_pieces():
            told = folded(table, pieces)
            self.assertIs(type(told), list)
            self.assertEqual(len(told), len(pieces))
            for one, row in enumerate(told):
                self.assertIs(type(row), list)
                for other, mark in enumerate(row):
                    marks = {table[here][there] for here in pieces[one] for there in pieces[other]}
                    self.assertEqual({mark}, {False} if one == other else marks)

    def test_pieces_that_do_not_tell_each_thing_once(self):
        for table in few_tables():
            for pieces in wrong_pieces(len(table)):
                check_refused(self, BadParts, folded, table, pieces)

    def test_pieces_that_do_not_stand_together(self):
        refused = 0
        for table in all_tables(3) + all_tables(4)[::5] + some_tables(5, 3) + [thin_ring(5)]:
            for pieces in partings(list(range(len(table)))):
                if not can_be_folded(table, pieces):
                    check_refused(self, BadParts, folded, table, pieces)
                    refused += 1
        self.assertGreater(refused, 100)

    def test_only_the_last_piece_does_not_stand_together(self):
        for many in range(4, 9):
            table = nested(thin_ring(many - 1), [TWO] + [ONE] * (many - 2))
            rest = [[thing] for thing in range(3, many - 1)]
            self.assertEqual(len(folded(table, [[0, 1], [2]] + rest + [[many - 1]])), many - 1)
            check_refused(self, BadParts, folded, table, [[0, 1]] + rest + [[2, many - 1]])
            check_refused(self, BadParts, folded, table, [[2, 1]] + rest + [[0], [many - 1]])


class Joined(unittest.TestCase):
    def test_by_hand(self):
        self.assertEqual(joined(ONE, [TWO]), TWO)
        self.assertEqual(joined(TWO, [ONE, ONE]), TWO)
        self.assertEqual(joined(TWO, [ONE, TWO]), [
            [False, True, True], [False, False, True], [False, False, False],
        ])
        self.assertEqual(joined([[False, False], [True, False]], [TWO, ONE]), [
            [False, True, False], [False, False, False], [True, True, False],
        ])

    def test_set_against_another_way_to_make_it(self):
        for outer, inners in self.families():
            told = joined(outer, inners)
            self.assertTrue(type(told) is list and all(type(row) is list for row in told))
            self.assertEqual(told, nested(outer, inners))

    def families(self):
        """Tables with as many others as they have rows, at most 8 things in all."""
        found = [(table, [ONE] * len(table)) for table in few_tables()]
        found.extend([(ONE, [table]) for table in few_tables()])
        for outer in all_tables(3):
            found.extend([(outer, [TWO, inner, ONE]) for inner in some_tables(5, 2) + [thin_ring(5)]])
            found.extend([(outer, [thin_ring(3), ONE, inner]) for inner in all_tables(4)[::13]])
        for outer in some_tables(4, 6):
            found.append((outer, [TWO, thin_ring(3), ONE, [[False, False], [True, False]]]))
        return found

    def test_folding_leads_back(self):
        for outer, inners in self.families():
            pieces = []
            for inner in inners:
                first = sum(len(piece) for piece in pieces)
                pieces.append(list(range(first, first + len(inner))))
            table = joined(outer, inners)
            self.assertEqual(folded(table, pieces), outer)
            self.assertEqual([part(table, piece) for piece in pieces], inners)

    def test_joining_leads_back(self):
        for table, pieces in tables_and_pieces():
            inners = [part(table, piece) for piece in pieces]
            order = [thing for piece in pieces for thing in piece]
            self.assertEqual(joined(folded(table, pieces), inners), renumbered(table, order))


class TableAndPieces(unittest.TestCase):
    def check_both(self, table, pieces, asking):
        """In the answer for the table just where in both, that for the folded table and that for the part."""
        outer = asking(folded(table, pieces))
        wanted = []
        for place, piece in enumerate(pieces):
            if place in outer:
                wanted.extend([piece[thing] for thing in asking(part(table, piece))])
        self.assertEqual(asking(table), sorted(wanted))

    def test_uncovered_and_crowns(self):
        for table, pieces in tables_and_pieces():
            self.check_both(table, pieces, uncovered)
            self.check_both(table, pieces, crowns)

    def test_shares_in_the_even_weighing_are_products(self):
        for table, pieces in tables_and_pieces():
            outer = shares(folded(table, pieces))
            told = shares(table)
            for place, piece in enumerate(pieces):
                inner = shares(part(table, piece))
                self.assertEqual([told[thing] for thing in piece], [outer[place] * share for share in inner])

    def test_the_top_ring(self):
        seen = set()
        for table, pieces in tables_and_pieces():
            top = top_ring(folded(table, pieces))
            if len(top) == 1:
                piece = pieces[top[0]]
                wanted = [piece[thing] for thing in top_ring(part(table, piece))]
            else:
                wanted = [thing for place in top for thing in pieces[place]]
            self.assertEqual(top_ring(table), sorted(wanted))
            seen.add(len(top))
        self.assertTrue({1, 3, 4} <= seen and 2 not in seen)


class Kept(unittest.TestCase):
    def test_nothing_handed_in_changes_and_the_answer_stays(self):
        for table in tables_with_rings() + nested_tables() + [FOUR]:
            pieces = parts(table)
            check_kept(self, folded, deepcopy(table), deepcopy(pieces))
            check_kept(self, places_of, deepcopy(pieces), len(table))
            inners = [part(table, piece) for piece in pieces]
            check_kept(self, joined, folded(table, pieces), inners)
            check_kept(self, joined, deepcopy(ONE), [deepcopy(table)])


if __name__ == "__main__":
    unittest.main()
