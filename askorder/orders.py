"""Which order brings which thing, with papers, and the thing that an order brings."""

from askorder.ahead import chain_behind, last_standing
from askorder.crowns import crown_paper
from askorder.errors import Unknown
from askorder.rings import row_from, top_ring


def to_stand(table, thing):
    top = top_ring(table)
    if thing not in top:
        return ("shut", top)
    # Up the row each thing beats the one ahead of it, and takes its place.
    return ("order", list(reversed(row_from(table, thing))))


def to_crown(table, thing):
    paper = crown_paper(table, thing)
    if paper[0] == "beaten":
        return paper
    # No thing beats all of a chain that stands: so all that come ahead of it are left out.
    chain = paper[1]
    others = [other for other in range(len(table)) if other not in chain]
    return ("order", others + chain, chain)


def to_rest(table, thing):
    top = top_ring(table)
    if thing not in top:
        return ("shut", top)
    # Down the row each thing beats the next, which is where the rest of them comes to.
    return ("order", row_from(table, thing))


def brings(table, kind, order):
    if kind == "plain":
        return last_standing(table, order)
    if kind == "ahead":
        return chain_behind(table, order)[0]
    if kind == "rest":
        return last_standing(table, list(reversed(order)))
    raise Unknown("there is no such kind")
