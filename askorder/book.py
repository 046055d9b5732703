"""The book: ballots that are put in, go out, are changed by raising, and changes taken back."""

from askorder.errors import BadBallot, BadNumber, NothingLeft, TooMany, Unknown
from askorder.votes import is_thing, raised_order, table_of, tells_each_once

MOST_BALLOTS = 99


class Book:
    def __init__(self, many):
        self.thing_count = many
        # What stands: tuples (number, voices, order). A change puts a new list in its
        # place, so what stood ahead of each change can be kept as it was.
        self.entries = []
        self.earlier = []
        self.next_number = 0

    def many(self):
        return self.thing_count

    def put_in(self, voices, order):
        if not tells_each_once(order, self.thing_count):
            raise BadBallot("the order does not tell each thing once and nothing else")
        if not 1 <= voices <= 10 ** 30:
            raise BadNumber("the voices are not from 1 to 10 ** 30")
        if len(self.entries) >= MOST_BALLOTS:
            raise TooMany("99 ballots stand")
        number = self.next_number
        # Never set back: so a number is not given twice, whatever is taken back.
        self.next_number = number + 1
        self.change_to(self.entries + [(number, voices, tuple(order))])
        return number

    def go_out(self, number):
        place = self.place_of(number)
        self.change_to(self.entries[:place] + self.entries[place + 1:])

    def raised(self, number, thing):
        place = self.place_of(number)
        if not is_thing(thing, self.thing_count):
            raise BadNumber("there is no such thing")
        entry = self.entries[place]
        changed = (number, entry[1], raised_order(entry[2], thing))
        self.change_to(self.entries[:place] + [changed] + self.entries[place + 1:])

    def take_back(self):
        if not self.earlier:
            raise NothingLeft("no change is left that could be taken back")
        self.entries = self.earlier.pop()

    def change_to(self, entries):
        self.earlier.append(self.entries)
        self.entries = entries

    def place_of(self, number):
        numbers = self.numbers()
        if number not in numbers:
            raise Unknown("no ballot that stands has this number")
        return numbers.index(number)

    def numbers(self):
        return [entry[0] for entry in self.entries]

    def votes(self):
        return [(entry[1], entry[2]) for entry in self.entries]

    def table(self):
        return table_of(self.votes(), self.thing_count)

    def left(self):
        return len(self.earlier)
