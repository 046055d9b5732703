"""Chains, beaters, and chains that stand."""

from askorder.tables import beats_all


def is_chain(table, things):
    if len(things) == 0:
        return False
    return all([beats_all(table, one, things[place + 1:]) for place, one in enumerate(things)])


def beaters(table, things):
    return [one for one in range(len(table)) if beats_all(table, one, things)]


def stands(table, chain):
    return is_chain(table, chain) and len(beaters(table, chain)) == 0


def grown(table, chain):
    longer = list(chain)
    ahead = beaters(table, longer)
    while ahead:
        longer = [ahead[0]] + longer
        ahead = beaters(table, longer)
    return longer
