"""Folding a table by pieces that stand together, and joining tables by a table."""

from askorder.errors import BadParts
from askorder.parts import stands_together
from askorder.tables import part
from askorder.votes import tells_each_once


def places_of(pieces, many):
    told = []
    for piece in pieces:
        if len(piece) == 0:
            raise BadParts("a piece is empty")
        told.extend(piece)
    if not tells_each_once(told, many):
        raise BadParts("the pieces do not tell each thing once and nothing else")
    places = [0] * many
    for place, piece in enumerate(pieces):
        for thing in piece:
            places[thing] = place
    return places


def folded(table, pieces):
    places_of(pieces, len(table))
    if not all([stands_together(table, piece) for piece in pieces]):
        raise BadParts("a piece does not stand together")
    # All things of a piece beat the same things outside it: so the first speaks for them.
    return part(table, [piece[0] for piece in pieces])


def joined(table, tables):
    homes = []
    for place, inner in enumerate(tables):
        homes.extend([(place, thing) for thing in range(len(inner))])
    return [joined_row(table, tables, one, homes) for one in homes]


def joined_row(table, tables, one, homes):
    return [beats_there(table, tables, one, other) for other in homes]


def beats_there(table, tables, one, other):
    if one[0] == other[0]:
        return tables[one[0]][one[1]][other[1]]
    return table[one[0]][other[0]]
