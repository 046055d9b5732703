"""The kinds of 5.4, words that are none of them, and where a kind leads by the document's own words."""

from askorder.ahead import ahead_end
from askorder.plain import plain_end
from askorder.tables import votes_for
from askorder.trees import rest_tree, standing_tree

KINDS = ("plain", "ahead", "rest")
NO_KINDS = ("", "Plain", "plain ", " ahead", "aheadrest", "standing", "rests", "PLAIN", "order", "left", "chain", "0")


def led_to(table, kind, order):
    """5.4 by its words: the kind of tree, asked of the kind of voters."""
    if kind == "plain":
        return plain_end(votes_for(table), len(table), standing_tree(order))
    return ahead_end(table, standing_tree(order) if kind == "ahead" else rest_tree(order))
