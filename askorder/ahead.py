"""Voters who look ahead, the last one standing, and the chain behind an order."""

from askorder.errors import BadTree
from askorder.tables import beats_all
from askorder.trees import is_good, is_question, order_asked


def ahead_end(table, tree):
    if not is_good(tree, len(table)):
        raise BadTree("something in the tree is no number of a thing of the table")
    return end_of(table, tree)


def end_of(table, tree):
    if not is_question(tree):
        return tree
    # Nothing beats itself: so where both ends are one thing it is told as well.
    return winner(table, end_of(table, tree[0]), end_of(table, tree[1]))


def winner(table, one, other):
    return other if table[other][one] else one


def last_standing(table, order):
    order_asked(order, len(table))
    standing = order[0]
    for thing in order[1:]:
        standing = winner(table, standing, thing)
    return standing


def chain_behind(table, order):
    order_asked(order, len(table))
    chain = []
    for thing in reversed(order):
        if beats_all(table, thing, chain):
            chain = [thing] + chain
    return chain
