"""9.1 and 9.2: the book, its numbers, changes, taking back and refusals, with 0.2, 0.5 and 0.6 for them."""

import unittest
from copy import deepcopy

from askorder.book import Book
from askorder.errors import BadBallot, BadNumber, Even, NothingLeft, TooMany, Unknown
from askorder.votes import table_of
from samples import check_refused, order_number, scribbled, some_votes, wrong_orders

MOST = 10 ** 30


def seen(book):
    """All that a book tells, but for the table."""
    return (book.many(), book.numbers(), book.votes(), book.left())


def filled(many, votes):
    book = Book(many)
    for voices, order in votes:
        book.put_in(voices, order)
    return book


class Refusing(unittest.TestCase):
    def check_unmoved(self, book, refusal, asking, *given):
        """Refused with this very class, and behind that all stands as it stood."""
        before = seen(book)
        check_refused(self, refusal, asking, *given)
        self.assertEqual(seen(book), before)


class PutIn(Refusing):
    def test_a_new_book(self):
        for many in range(1, 9):
            book = Book(many)
            self.assertEqual(seen(book), (many, [], [], 0))

    def test_by_hand(self):
        book = Book(3)
        self.assertEqual(book.put_in(3, (0, 1, 2)), 0)
        self.assertEqual(book.put_in(4, (1, 2, 0)), 1)
        self.assertEqual(book.put_in(4, (1, 2, 0)), 2)
        self.assertEqual(book.numbers(), [0, 1, 2])
        self.assertEqual(book.votes(), [(3, (0, 1, 2)), (4, (1, 2, 0)), (4, (1, 2, 0))])
        self.assertEqual(book.left(), 3)
        self.assertEqual(book.many(), 3)
        self.assertEqual(book.table(), [[False, False, False], [True, False, True], [True, False, False]])

    def test_the_kinds_that_are_told(self):
        book = filled(2, [(1, (1, 0))])
        self.assertIs(type(book.numbers()), list)
        self.assertIs(type(book.votes()), list)
        self.assertTrue(all(type(ballot) is tuple and type(ballot[1]) is tuple for ballot in book.votes()))
        self.assertIsNone(book.raised(0, 0))
        self.assertIsNone(book.go_out(0))
        self.assertIsNone(book.take_back())

    def test_bounds_of_voices(self):
        book = Book(2)
        self.assertEqual(book.put_in(1, (0, 1)), 0)
        self.assertEqual(book.put_in(MOST, (1, 0)), 1)
        for voices in (0, -1, -MOST, MOST + 1, 10 ** 31, 10 ** 60):
            self.check_unmoved(book, BadNumber, book.put_in, voices, (0, 1))
        self.assertEqual(book.put_in(MOST - 1, (0, 1)), 2)
        self.assertEqual(book.votes(), [(1, (0, 1)), (MOST, (1, 0)), (MOST - 1, (0, 1))])

    def test_orders_that_do_not_tell_each_thing_once(self):
        for many in range(1, 9):
            book = filled(many, [(1, tuple(range(many)))])
            for order in wrong_orders(many):
                for voices in (1, 2, 0, -1, MOST + 1):
                    self.check_unmoved(book, BadBallot, book.put_in, voices, order)

    def test_the_hundredth_ballot(self):
        for many in (1, 3, 8):
            book = filled(many, some_votes(many, 99, 1))
            order = tuple(range(many))
            self.check_unmoved(book, TooMany, book.put_in, 1, order)
            # The first of the refusals that is so.
            self.check_unmoved(book, BadNumber, book.put_in, 0, order)
            self.check_unmoved(book, BadNumber, book.put_in, MOST + 1, order)
            self.check_unmoved(book, BadBallot, book.put_in, 0, order[1:])
            self.check_unmoved(book, BadBallot, book.put_in, 1, order + order)
            book.go_out(50)
            self.assertEqual(book.put_in(1, order), 99)
            self.check_unmoved(book, TooMany, book.put_in, 1, order)
            book.take_back()
            self.assertEqual(book.put_in(1, order), 100)
            self.assertEqual(book.numbers(), [number for number in range(99) if number != 50] + [100])


class Numbers(Refusing):
    def test_a_number_is_never_given_twice(self):
        book = Book(1)
        self.assertEqual([book.put_in(1, (0,)) for time in range(3)], [0, 1, 2])
        book.go_out(2)
        self.assertEqual(book.put_in(1, (0,)), 3)
        book.take_back()
        self.assertEqual(book.numbers(), [0, 1])
        self.assertEqual(book.put_in(1, (0,)), 4)
        for time in range(5):
            book.take_back()
        self.assertEqual(seen(book), (1, [], [], 0))
        self.assertEqual(book.put_in(1, (0,)), 5)

    def test_what_was_refused_takes_no_number(self):
        book = Book(2)
        check_refused(self, BadBallot, book.put_in, 1, (0, 0))
        check_refused(self, BadNumber, book.put_in, 0, (0, 1))
        self.assertEqual(book.put_in(1, (0, 1)), 0)
        check_refused(self, Unknown, book.go_out, 1)
        check_refused(self, BadNumber, book.put_in, 0, (0, 1))
        self.assertEqual(book.put_in(1, (0, 1)), 1)

    def test_numbers_that_no_standing_ballot_has(self):
        book = filled(2, [(1, (0, 1))] * 3)
        book.go_out(1)
        for number in (1, 3, 4, -1, -2, -3, 10 ** 40):
            self.check_unmoved(book, Unknown, book.go_out, number)
            for thing in (0, 1, 2, -1):
                self.check_unmoved(book, Unknown, book.raised, number, thing)
        for number in (0, -1, 1):
            self.check_unmoved(Book(1), Unknown, Book(1).go_out, number)
            self.check_unmoved(Book(1), Unknown, Book(1).raised, number, 0)

    def test_a_ballot_that_was_taken_back_stands_no_more(self):
        book = filled(1, [(1, (0,))] * 2)
        book.take_back()
        self.check_unmoved(book, Unknown, book.go_out, 1)
        self.check_unmoved(book, Unknown, book.raised, 1, 0)

    def test_ballots_stand_in_the_order_in_which_they_came(self):
        book = filled(1, [(voices, (0,)) for voices in range(1, 8)])
        for number in (3, 0, 6):
            book.go_out(number)
        self.assertEqual(book.numbers(), [1, 2, 4, 5])
        self.assertEqual(book.votes(), [(2, (0,)), (3, (0,)), (5, (0,)), (6, (0,))])
        self.assertEqual(book.put_in(9, (0,)), 7)
        self.assertEqual(book.numbers(), [1, 2, 4, 5, 7])

    def test_one_that_went_comes_back_where_it_stood(self):
        for number in range(5):
            votes = [(voices, (0,)) for voices in range(1, 6)]
            book = filled(1, votes)
            book.go_out(number)
            self.assertEqual(book.numbers(), [other for other in range(5) if other != number])
            book.take_back()
            self.assertEqual(seen(book), (1, [0, 1, 2, 3, 4], votes, 5))


class Raised(Refusing):
    def test_by_hand(self):
        book = filled(4, [(1, (3, 1, 0, 2)), (2, (3, 1, 0, 2))])
        book.raised(1, 2)
        self.assertEqual(book.votes(), [(1, (3, 1, 0, 2)), (2, (3, 1, 2, 0))])
        book.raised(1, 2)
        self.assertEqual(book.votes(), [(1, (3, 1, 0, 2)), (2, (3, 2, 1, 0))])
        book.raised(1, 2)
        self.assertEqual(book.votes(), [(1, (3, 1, 0, 2)), (2, (2, 3, 1, 0))])
        self.check_unmoved(book, NothingLeft, book.raised, 1, 2)
        self.assertEqual((book.numbers(), book.left()), ([0, 1], 5))

    def test_each_thing_of_each_place(self):
        for many in range(1, 9):
            for seed in range(3):
                order = order_number(many, seed * 5003)
                for place, thing in enumerate(order):
                    book = filled(many, [(5, order), (7, order), (9, order)])
                    if place == 0:
                        self.check_unmoved(book, NothingLeft, book.raised, 1, thing)
                        continue
                    changed = list(order)
                    changed[place], changed[place - 1] = order[place - 1], thing
                    book.raised(1, thing)
                    self.assertEqual(book.votes(), [(5, order), (7, tuple(changed)), (9, order)])
                    self.assertEqual((book.numbers(), book.left()), ([0, 1, 2], 4))
                    book.take_back()
                    self.assertEqual(seen(book), (many, [0, 1, 2], [(5, order), (7, order), (9, order)], 3))

    def test_no_such_thing(self):
        for many in range(1, 9):
            book = filled(many, [(1, tuple(range(many)))])
            for thing in (many, many + 1, -1, -many, 10 ** 40):
                self.check_unmoved(book, BadNumber, book.raised, 0, thing)
                self.check_unmoved(book, Unknown, book.raised, 1, thing)


class TakeBack(Refusing):
    def test_nothing_left(self):
        book = Book(2)
        self.check_unmoved(book, NothingLeft, book.take_back)
        book.put_in(1, (0, 1))
        book.take_back()
        self.check_unmoved(book, NothingLeft, book.take_back)

    def test_one_after_the_other_down_to_the_empty_book(self):
        book = Book(3)
        states = [seen(book)]
        for change in (
            lambda: book.put_in(3, (0, 1, 2)), lambda: book.put_in(1, (2, 1, 0)), lambda: book.raised(1, 0),
            lambda: book.raised(1, 0), lambda: book.go_out(0), lambda: book.put_in(5, (1, 0, 2)),
            lambda: book.raised(2, 0), lambda: book.go_out(1), lambda: book.go_out(2),
        ):
            change()
            states.append(seen(book))
        self.assertEqual(states[-1], (3, [], [], 9))
        for state in reversed(states[:-1]):
            book.take_back()
            self.assertEqual(seen(book), state)
        self.check_unmoved(book, NothingLeft, book.take_back)

    def test_a_change_behind_a_taking_back(self):
        book = filled(2, [(1, (0, 1)), (2, (0, 1))])
        book.go_out(0)
        book.take_back()
        book.raised(0, 1)
        self.assertEqual((book.votes(), book.left()), ([(1, (1, 0)), (2, (0, 1))], 3))
        book.take_back()
        self.assertEqual((book.votes(), book.left()), ([(1, (0, 1)), (2, (0, 1))], 2))
        book.take_back()
        self.assertEqual((book.votes(), book.left()), ([(1, (0, 1))], 1))

    def test_what_is_refused_is_no_change(self):
        book = filled(2, [(1, (0, 1))])
        check_refused(self, NothingLeft, book.raised, 0, 0)
        check_refused(self, Unknown, book.go_out, 5)
        check_refused(self, BadNumber, book.put_in, 0, (0, 1))
        self.assertEqual(book.left(), 1)
        book.take_back()
        self.assertEqual(seen(book), (2, [], [], 0))


def replayed(changes):
    """What stands behind these changes, made one after the other on an empty list."""
    stood = []
    for kind, number, told in changes:
        place = next((place for place, entry in enumerate(stood) if entry[0] == number), None)
        if kind == "put":
            stood.append([number, told[0], list(told[1])])
        elif kind == "out":
            stood.pop(place)
        else:
            order = stood[place][2]
            at = order.index(told)
            order.insert(at - 1, order.pop(at))
    return stood


class LongTales(unittest.TestCase):
    def step(self, book, many, changes, given, number):
        """One change or taking back, as the number tells; answers how many numbers are given behind it."""
        stood = replayed(changes)
        kind = number % 7
        entry = stood[number // 7 % len(stood)] if stood else None
        if kind in (0, 1, 2) and len(stood) < 99 or not stood:
            told = (1 + number % 11, order_number(many, number % 40320))
            self.assertEqual(book.put_in(*told), given)
            changes.append(("put", given, told))
            return given + 1
        if kind == 3:
            book.go_out(entry[0])
            changes.append(("out", entry[0], None))
        elif kind in (4, 5) and many > 1:
            thing = entry[2][1 + number % (many - 1)]
            book.raised(entry[0], thing)
            changes.append(("raise", entry[0], thing))
        elif changes:
            book.take_back()
            changes.pop()
        return given

    def test_set_against_all_changes_made_anew(self):
        for many in range(1, 9):
            book = Book(many)
            changes = []
            given = 0
            number = many
            for time in range(150):
                number = (number * 48271 + 11) % 2147483647
                given = self.step(book, many, changes, given, number // 1009)
                stood = replayed(changes)
                self.assertEqual(book.numbers(), [entry[0] for entry in stood])
                self.assertEqual(book.votes(), [(entry[1], tuple(entry[2])) for entry in stood])
                self.assertEqual(book.left(), len(changes))
            while changes:
                book.take_back()
                changes.pop()
                self.assertEqual(book.numbers(), [entry[0] for entry in replayed(changes)])
            self.assertEqual(seen(book), (many, [], [], 0))
            self.assertEqual(book.put_in(1, tuple(range(many))), given)


class Table(Refusing):
    def test_the_table_of_the_votes(self):
        for many in range(1, 9):
            book = Book(many)
            total = 0
            for voices, order in some_votes(many, 12, many):
                book.put_in(voices, order)
                total += voices
                if total % 2 == 0:
                    self.check_unmoved(book, Even, book.table)
                else:
                    self.assertEqual(book.table(), table_of(book.votes(), many))

    def test_the_book_of_no_ballot(self):
        for many in range(1, 9):
            book = Book(many)
            self.check_unmoved(book, Even, book.table)
            book.put_in(1, tuple(range(many)))
            self.assertEqual(book.table(), [[one < other for other in range(many)] for one in range(many)])
            book.take_back()
            self.check_unmoved(book, Even, book.table)

    def test_it_follows_each_change(self):
        book = filled(2, [(3, (0, 1)), (2, (1, 0))])
        self.assertEqual(book.table(), [[False, True], [False, False]])
        book.raised(0, 1)
        self.assertEqual(book.table(), [[False, False], [True, False]])
        book.take_back()
        self.assertEqual(book.table(), [[False, True], [False, False]])
        book.go_out(0)
        self.check_unmoved(book, Even, book.table)


class Kept(unittest.TestCase):
    def test_to_change_what_is_told_changes_nothing_in_the_book(self):
        for many in range(1, 9):
            book = filled(many, [(1, order_number(many, 7)), (2, order_number(many, 11)), (4, order_number(many, 5))])
            book.go_out(1)
            book.put_in(2, order_number(many, 3))
            for asking in (book.numbers, book.votes, book.table):
                before = (seen(book), book.table())
                first, second = asking(), asking()
                told = deepcopy(first)
                scribbled(first)
                self.assertEqual(second, told)
                self.assertEqual(asking(), told)
                self.assertEqual((seen(book), book.table()), before)
                book.take_back()
                book.take_back()
                self.assertEqual(seen(book)[1], [0, 1, 2])
                book.go_out(1)
                book.put_in(2, order_number(many, 3))

    def test_what_is_told_stays_whatever_is_done_later(self):
        book = filled(2, [(1, (0, 1)), (2, (1, 0))])
        numbers, votes, table = book.numbers(), book.votes(), book.table()
        book.raised(0, 1)
        book.go_out(1)
        book.put_in(9, (0, 1))
        book.take_back()
        self.assertEqual((numbers, votes), ([0, 1], [(1, (0, 1)), (2, (1, 0))]))
        self.assertEqual(table, [[False, False], [True, False]])

    def test_two_books_do_not_touch_one_another(self):
        one, other = Book(2), Book(2)
        one.put_in(1, (0, 1))
        self.assertEqual(seen(other), (2, [], [], 0))
        self.assertEqual(other.put_in(3, (1, 0)), 0)
        other.put_in(5, (1, 0))
        one.raised(0, 1)
        other.go_out(0)
        one.take_back()
        self.assertEqual(seen(one), (2, [0], [(1, (0, 1))], 1))
        self.assertEqual(seen(other), (2, [1], [(5, (1, 0))], 3))


if __name__ == "__main__":
    unittest.main()
