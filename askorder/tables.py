"""Tables: which are full, parts of them, turned ones, and votes for them."""


def is_full(rows):
    many = len(rows)
    if many == 0 or not all([is_row(row, many) for row in rows]):
        return False
    return all([is_decided(rows, one) for one in range(many)])


def is_row(row, many):
    return len(row) == many and all([isinstance(mark, bool) for mark in row])


def is_decided(rows, one):
    # The lesser things alone: so each two things are looked at just once.
    return not rows[one][one] and all([rows[one][other] != rows[other][one] for other in range(one)])


def part(table, things):
    return [picked(table[one], things) for one in things]


def picked(row, things):
    return [row[other] for other in things]


def turned(table):
    return [column(table, one) for one in range(len(table))]


def column(table, one):
    return [row[one] for row in table]


def beaten_by(table, one):
    return places_true(table[one])


def beaters_of(table, one):
    return places_true(column(table, one))


def beats_all(table, one, things):
    return all([table[one][other] for other in things])


def places_true(marks):
    return [place for place, mark in enumerate(marks) if mark]


def votes_for(table):
    # The two ballots for a pair cancel out but for this pair, which they set two
    # voices apart; the first ballot of all makes the sum odd and turns no pair.
    votes = [(1, tuple(range(len(table))))]
    for one in range(len(table)):
        for other in beaten_by(table, one):
            votes.extend(ballots_for_pair(len(table), one, other))
    return votes


def ballots_for_pair(many, one, other):
    others = [thing for thing in range(many) if thing not in (one, other)]
    backwards = list(reversed(others))
    return [(1, tuple([one, other] + others)), (1, tuple(backwards + [one, other]))]
