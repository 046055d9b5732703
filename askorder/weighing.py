"""The even weighing: scores, even weights, and how lists of weights play against one another."""

from askorder.covers import uncovered
from askorder.pairings import kernel
from askorder.tables import beaten_by, beaters_of, part


def score(table, weights, thing):
    return weight_of(weights, beaten_by(table, thing)) - weight_of(weights, beaters_of(table, thing))


def weight_of(weights, things):
    return sum([weights[thing] for thing in things])


def is_even(table, weights):
    if min(weights) < 0 or max(weights) == 0:
        return False
    return all([is_even_at(table, weights, thing) for thing in range(len(table))])


def is_even_at(table, weights, thing):
    if weights[thing] > 0:
        return score(table, weights, thing) == 0
    return score(table, weights, thing) < 0


def weighing(table):
    # Even weights are, on the things that have some, a multiple of the kernel there; and
    # these things are uncovered and odd in number. Each table has such weights, so this ends.
    for things in odd_picks(uncovered(table)):
        weights = weights_on(table, things)
        if is_even(table, weights):
            return weights


def odd_picks(things):
    picks = [[]]
    for thing in things:
        picks = picks + [pick + [thing] for pick in picks]
    return [pick for pick in picks if len(pick) % 2 == 1]


def weights_on(table, things):
    numbers = kernel(part(table, things))
    divisor = common_divisor(numbers)
    # The kernel may have its signs turned: the first number is made one above nought.
    if numbers[0] < 0:
        divisor = -divisor
    weights = [0] * len(table)
    for thing, number in zip(things, numbers):
        weights[thing] = number // divisor
    return weights


def common_divisor(numbers):
    divisor = 0
    for number in numbers:
        divisor = divisor_of_two(divisor, abs(number))
    return divisor


def divisor_of_two(one, other):
    while other > 0:
        rest = one % other
        one = other
        other = rest
    return one


def play(table, weights, others):
    return sum([weight * score(table, others, thing) for thing, weight in enumerate(weights)])
