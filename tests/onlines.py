"""Orders and votes that lie on a line, and 6.1 and 6.2 by other words than the program's."""

from itertools import combinations, permutations

from samples import made_odd, order_number


def order_on_line(line, best, sides):
    """The order with its best thing at this place, that goes right where the next bit of sides is set."""
    order = [line[best]]
    left, right = line[:best], line[best + 1:]
    while left or right:
        goes_right = right and (not left or sides % 2 == 1)
        order.append(right.pop(0) if goes_right else left.pop())
        sides //= 2
    return tuple(order)


def orders_on_line(line):
    """All orders that fit a line."""
    many = len(line)
    orders = {order_on_line(line, best, sides) for best in range(many) for sides in range(2 ** (many - 1))}
    return sorted(orders)


def some_line(many, seed):
    return list(order_number(many, seed * 15485863 + 77))


def votes_on_line(line, ballots, seed):
    """Votes that lie on a line, the same each time; their voices together are odd."""
    votes = []
    for place in range(ballots):
        number = (seed * 7919 + place * 104729 + place ** 2 * 31) % 40320
        votes.append((1 + number % 13, order_on_line(line, number % len(line), number // 8)))
    return made_odd(votes)


def fits_by_words(order, line):
    """6.1 by other words: no thing lies between two things of the line that both are ahead of it in the order."""
    rank = {thing: place for place, thing in enumerate(order)}
    return all(rank[there] < max(rank[left], rank[right]) for left, there, right in combinations(line, 3))


def lines_by_words(votes, many):
    """All lines that every ballot fits, out of all lists of the things."""
    lines = [list(line) for line in permutations(range(many))]
    return [line for line in lines if all(fits_by_words(order, line) for voices, order in votes)]


def bars_by_words(votes, paper):
    """6.2 and 6.3 by their words."""
    kind, things, places = paper
    orders = [votes[place][1] for place in places]
    if kind == "lasts":
        return all(max(things, key=order.index) == thing for thing, order in zip(things, orders))
    a, b, c, d = things
    first, second = [order.index for order in orders]
    return first(a) < first(b) < first(c) and first(d) < first(b) \
        and second(c) < second(b) < second(a) and second(d) < second(b)
