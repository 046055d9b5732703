"""Pairing sums, and kernels."""

from askorder.tables import part


def pairing_sum(table):
    if len(table) == 0:
        return 1
    total = 0
    for mate in range(1, len(table)):
        # Whether evenly or oddly many pairs cross that of 0 and its mate, the count of
        # things between the two tells: a pair that does not cross has none or both there.
        total = total + turned_sign(mate - 1) * sign(table, mate) * pairing_sum(without(table, [0, mate]))
    return total


def sign(table, mate):
    return 1 if table[0][mate] else -1


def turned_sign(times):
    return 1 if times % 2 == 0 else -1


def without(table, things):
    return part(table, [thing for thing in range(len(table)) if thing not in things])


def kernel(table):
    return [turned_sign(thing) * pairing_sum(without(table, [thing])) for thing in range(len(table))]
