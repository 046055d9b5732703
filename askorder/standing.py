"""What raising keeps: how a thing stands in a table, and votes in which a thing is raised."""

from askorder.covers import uncovered
from askorder.crowns import crowns
from askorder.rings import top_ring
from askorder.votes import raised_order
from askorder.weighing import weighing


def standing_of(table, thing):
    return (thing in top_ring(table), thing in uncovered(table), thing in crowns(table), weighing(table)[thing] > 0)


def raised_votes(votes, place, thing):
    ballot = votes[place]
    return votes[:place] + [(ballot[0], raised_order(ballot[1], thing))] + votes[place + 1:]
