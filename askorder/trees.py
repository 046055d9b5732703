"""Trees of questions: which are good, their things, and the two trees of an order."""

from askorder.errors import BadOrder
from askorder.votes import is_thing, tells_each_once


def is_question(tree):
    return isinstance(tree, tuple)


def numbers_in(tree):
    if is_question(tree):
        return numbers_in(tree[0]) + numbers_in(tree[1])
    return [tree]


def is_good(tree, many):
    return all([is_thing(number, many) for number in numbers_in(tree)])


def things_in(tree):
    return sorted(set(numbers_in(tree)))


def order_asked(order, many):
    # An empty list does tell each of no things once, and is no order all the same.
    if many == 0 or not tells_each_once(order, many):
        raise BadOrder("the order does not tell each thing once and nothing else")


def standing_tree(order):
    order_asked(order, len(order))
    return standing_questions(order)


def standing_questions(order):
    if len(order) == 1:
        return order[0]
    # Left the first thing goes on standing, right the second one has come in its place.
    return (standing_questions(order[:1] + order[2:]), standing_questions(order[1:]))


def rest_tree(order):
    order_asked(order, len(order))
    tree = order[-1]
    for thing in reversed(order[:-1]):
        tree = (thing, tree)
    return tree
