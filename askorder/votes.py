"""Votes: which of them are refused, their voices, leads, raising, and the table of them."""

from askorder.errors import BadBallot, Even, NothingLeft


def is_thing(value, many):
    # True and False would pass for 1 and 0, but they are no numbers of things.
    return isinstance(value, int) and not isinstance(value, bool) and 0 <= value < many


def tells_each_once(order, many):
    if len(order) != many:
        return False
    told = {}
    for thing in order:
        if not is_thing(thing, many) or thing in told:
            return False
        told[thing] = True
    return True


def asked(votes, many):
    # Every order is looked at ahead of the sum: BadBallot goes ahead of Even.
    for ballot in votes:
        if not tells_each_once(ballot[1], many):
            raise BadBallot("the order of a ballot does not tell each thing once and nothing else")
    if voices(votes) % 2 == 0:
        raise Even("the voices of all ballots together are an even number")


def voices(votes):
    return sum([ballot[0] for ballot in votes])


def lead(votes, one, other):
    ahead = [ballot for ballot in votes if puts_ahead(ballot[1], one, other)]
    behind = [ballot for ballot in votes if puts_ahead(ballot[1], other, one)]
    return voices(ahead) - voices(behind)


def puts_ahead(order, one, other):
    return order.index(one) < order.index(other)


def raised_order(order, thing):
    place = order.index(thing)
    if place == 0:
        raise NothingLeft("the thing is the best one of the ballot already")
    return order[:place - 1] + (thing, order[place - 1]) + order[place + 1:]


def table_of(votes, many):
    asked(votes, many)
    return [row_of(votes, many, one) for one in range(many)]


def row_of(votes, many, one):
    return [one != other and lead(votes, one, other) > 0 for other in range(many)]
