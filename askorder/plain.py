"""Voters who speak plainly: the side each asks for, the sides gone into, and the end."""

from askorder.errors import BadTree
from askorder.trees import is_good, is_question, things_in
from askorder.votes import asked, voices


def side_asked(order, tree):
    left = things_in(tree[0])
    right = things_in(tree[1])
    for thing in order:
        if thing in left and thing not in right:
            return "left"
        if thing in right and thing not in left:
            return "right"
    return "left"


def sides_gone(votes, many, tree):
    asked(votes, many)
    if not is_good(tree, many):
        raise BadTree("something in the tree is no number of a thing")
    sides = []
    here = tree
    while is_question(here):
        side = side_gone(votes, here)
        sides.append(side)
        here = side_of(here, side)
    return sides


def side_gone(votes, tree):
    # The voices in all are odd: so the two sides are never even.
    left = [ballot for ballot in votes if side_asked(ballot[1], tree) == "left"]
    return "left" if 2 * voices(left) > voices(votes) else "right"


def side_of(tree, side):
    return tree[0] if side == "left" else tree[1]


def plain_end(votes, many, tree):
    here = tree
    for side in sides_gone(votes, many, tree):
        here = side_of(here, side)
    return here
