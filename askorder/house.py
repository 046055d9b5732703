"""The house: rows that are told and asked, and the rows that answer them."""

from askorder.asks import row_asked
from askorder.book import Book
from askorder.chair import best_for
from askorder.covers import uncovered
from askorder.crowns import crowns
from askorder.errors import BadBallot, BadNumber, BadOrder, BadRow, Even, NothingLeft, TooMany, Unknown
from askorder.lines import line_of
from askorder.orders import brings
from askorder.parts import parts
from askorder.rings import top_ring
from askorder.weighing import weighing
from askorder.words import is_name


class House:
    def __init__(self, names):
        if not 1 <= len(names) <= 8 or not all([is_name(name) for name in names]):
            raise BadRow("these are not 1 to 8 names")
        if len(set(names)) != len(names):
            raise BadRow("a name is told twice")
        self.names = list(names)
        self.ballots = Book(len(names))

    def book(self):
        return self.ballots

    def ask(self, row):
        try:
            return self.answer_to(row_asked(row))
        except BadRow:
            return "refused row"
        except BadNumber:
            return "refused number"
        except TooMany:
            return "refused many"
        except Unknown:
            return "refused unknown"
        except NothingLeft:
            return "refused left"
        except Even:
            return "refused even"
        except (BadOrder, BadBallot):
            return "refused order"

    def answer_to(self, told):
        if told[0] in ("vote", "out", "raise", "back"):
            return self.change(told)
        if told[0] == "beats":
            return self.which_beats(self.thing_of(told[1]), self.thing_of(told[2]))
        if told[0] in ("plain", "ahead", "rest"):
            return self.end_of(told[0], self.things_of(told[1]))
        if told[0] == "chair":
            return self.best_by(told[1], self.things_of(told[2]))
        if told[0] == "line":
            return self.line_told()
        return self.standing_out(told[0], self.ballots.table())

    def thing_of(self, name):
        if name not in self.names:
            raise Unknown("none of the things has this name")
        return self.names.index(name)

    def things_of(self, names):
        return [self.thing_of(name) for name in names]

    def change(self, told):
        if told[0] == "vote":
            number = self.ballots.put_in(told[1], tuple(self.things_of(told[2])))
            return f"ballot {number}"
        if told[0] == "out":
            self.ballots.go_out(told[1])
        elif told[0] == "raise":
            self.ballots.raised(told[1], self.thing_of(told[2]))
        else:
            self.ballots.take_back()
        return "done"

    def which_beats(self, one, other):
        return "yes" if self.ballots.table()[one][other] else "no"

    def end_of(self, kind, order):
        return self.names[brings(self.ballots.table(), kind, order)]

    def best_by(self, kind, wish):
        best = best_for(self.ballots.table(), kind, wish)
        return " ".join([self.names[best[0]], "by"] + self.names_of(best[1]))

    def line_told(self):
        paper = line_of(self.ballots.votes(), self.ballots.many())
        if paper[0] == "line":
            return " ".join(["line"] + self.names_of(paper[1]))
        return "barred"

    def standing_out(self, word, table):
        if word == "weights":
            words = [str(weight) for weight in weighing(table)]
        elif word == "parts":
            words = self.names_parted(parts(table))
        elif word == "top":
            words = self.names_of(top_ring(table))
        elif word == "uncovered":
            words = self.names_of(uncovered(table))
        else:
            words = self.names_of(crowns(table))
        return " ".join([word] + words)

    def names_of(self, things):
        return [self.names[thing] for thing in things]

    def names_parted(self, pieces):
        words = self.names_of(pieces[0])
        for piece in pieces[1:]:
            words = words + ["/"] + self.names_of(piece)
        return words


def run(text):
    rows = [row for row in text.split("\n") if row != ""]
    try:
        house = house_of(rows)
    except BadRow:
        return "refused things\n"
    return "".join([house.ask(row) + "\n" for row in rows[1:]])


def house_of(rows):
    if not rows:
        raise BadRow("there is no first row")
    words = rows[0].split(" ")
    if words[0] != "things":
        raise BadRow("the first row is another one")
    return House(words[1:])
