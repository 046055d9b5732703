"""What several test files share: tables and votes to ask about, and a check of 0.2 and 0.6."""

from copy import deepcopy
from itertools import combinations


def table_from(many, bits):
    """The full table in which the k-th pair (lesser thing first) goes to the lesser where bit k is set."""
    table = [[False] * many for thing in range(many)]
    for place, (one, other) in enumerate(combinations(range(many), 2)):
        lesser_beats = bits >> place & 1 == 1
        table[one][other] = lesser_beats
        table[other][one] = not lesser_beats
    return table


def pair_count(many):
    return many * (many - 1) // 2


def all_tables(many):
    return [table_from(many, bits) for bits in range(2 ** pair_count(many))]


def some_tables(many, count):
    """A spread of tables that is the same each time."""
    span = 2 ** pair_count(many)
    return [table_from(many, (place * 2654435761 + place ** 3 * 40503 + many) % span) for place in range(count)]


def tables_of_all_sizes():
    """All tables of 1 to 4 things, and some of 5 to 8."""
    tables = []
    for many in range(1, 5):
        tables.extend(all_tables(many))
    for many in range(5, 9):
        tables.extend(some_tables(many, 40))
    return tables


def order_number(many, number):
    """The order with this number, of all orders of so many things."""
    left = list(range(many))
    order = []
    while left:
        number, place = divmod(number, len(left))
        order.append(left.pop(place))
    return tuple(order)


def some_votes(many, ballots, seed):
    """Votes that are the same each time; their voices together may be odd or even."""
    votes = []
    for place in range(ballots):
        number = (seed * 7919 + place * 104729 + place ** 2 * 31) % 40320
        votes.append((1 + number % 17, order_number(many, number)))
    return votes


def made_odd(votes):
    """The same votes, with one voice more in the first ballot where their sum is even."""
    if sum(count for count, order in votes) % 2 == 0:
        return [(votes[0][0] + 1, votes[0][1])] + votes[1:]
    return votes


def scribbled(value):
    """Spoils every list within a value, as an asker may."""
    if isinstance(value, (list, tuple)):
        for inner in value:
            scribbled(inner)
    if isinstance(value, list):
        value.reverse()
        value.append("spoilt")


def check_kept(test, asking, *given):
    """0.2 and 0.6: nothing handed in changes, what is told is the asker's own, and asked again it is the same."""
    before = deepcopy(given)
    first = asking(*given)
    told = deepcopy(first)
    test.assertEqual(given, before)
    second = asking(*given)
    test.assertEqual(second, told)
    scribbled(first)
    test.assertEqual(given, before)
    test.assertEqual(second, told)
    third = asking(*given)
    test.assertEqual(third, told)
    scribbled(given)
    test.assertEqual(third, told)
    test.assertEqual(asking(*before), told)


def check_refused(test, refusal, asking, *given):
    """The refusal is of this very class each time, and nothing handed in changes."""
    before = deepcopy(given)
    for again in range(2):
        with test.assertRaises(refusal) as caught:
            asking(*given)
        test.assertIs(type(caught.exception), refusal)
        test.assertEqual(given, before)
