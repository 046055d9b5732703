"""What a chair can have by each kind of tree and voters, and the best for the chair's wish."""

from askorder.errors import Unknown
from askorder.orders import to_crown, to_rest, to_stand
from askorder.trees import order_asked


def paper_for(table, kind, thing):
    if kind == "plain":
        return to_stand(table, thing)
    if kind == "ahead":
        return to_crown(table, thing)
    if kind == "rest":
        return to_rest(table, thing)
    raise Unknown("there is no such kind")


def orders_to(table, kind):
    # A paper of the other kinds shows that no order brings the thing.
    papers = [paper_for(table, kind, thing) for thing in range(len(table))]
    return [paper[1] if paper[0] == "order" else None for paper in papers]


def can_be_had(table, kind):
    return [thing for thing, order in enumerate(orders_to(table, kind)) if order is not None]


def best_for(table, kind, wish):
    # The kind is looked at ahead of the wish: Unknown goes ahead of BadOrder.
    orders = orders_to(table, kind)
    order_asked(wish, len(table))
    # Something can always be had, since a table has a top ring and a crown.
    best = [thing for thing in wish if orders[thing] is not None][0]
    return (best, orders[best])
