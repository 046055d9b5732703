"""Ways from thing to thing, rings, rows through all things, and rounds."""

from askorder.errors import NotTop
from askorder.tables import beaten_by


def reached(table, one):
    return sorted(steps_from(table, one))


def way(table, one, other):
    steps = steps_from(table, one)
    if other not in steps:
        return None
    back = [other]
    while back[-1] != one:
        back.append(steps[back[-1]])
    return list(reversed(back))


def steps_from(table, one):
    # Each thing is met by as few steps as any, since all things of one distance are
    # left behind ahead of the next; it is kept with the thing from which it was met.
    steps = {one: one}
    edge = [one]
    while edge:
        further = []
        for here in edge:
            for other in beaten_by(table, here):
                if other not in steps:
                    steps[other] = here
                    further.append(other)
        edge = further
    return steps


def rings(table):
    # A thing comes to its own ring and to all rings below it, and to nothing else:
    # so things of one ring come to as many things, those of an upper ring to more.
    counts = [len(reached(table, one)) for one in range(len(table))]
    return [places_with(counts, count) for count in range(len(table), 0, -1) if count in counts]


def places_with(counts, wanted):
    return [place for place, count in enumerate(counts) if count == wanted]


def top_ring(table):
    return rings(table)[0]


def row_from(table, one):
    from_the_top = rings(table)
    if one not in from_the_top[0]:
        raise NotTop("the thing does not lie in the top ring")
    row = begun_with(round_of(table, from_the_top[0]), one)
    for ring in from_the_top[1:]:
        row.extend(round_of(table, ring))
    return row


def begun_with(circle, one):
    place = circle.index(one)
    return circle[place:] + circle[:place]


def round_of(table, ring):
    # What is put in stands behind some thing of the circle: so the least stays first.
    circle = [min(ring)]
    wider = widened(table, circle, ring)
    while len(wider) > len(circle):
        circle = wider
        wider = widened(table, circle, ring)
    return circle


def widened(table, circle, ring):
    # While a thing of the ring is left there is some detour. Either one that is left
    # beats some of the circle and not all of it, and then fits between two neighbours;
    # or each that is left beats all of the circle or none of it, and as the ring leads
    # round, one that is beaten by the circle beats one that beats the circle.
    left = [thing for thing in ring if thing not in circle]
    for place, here in enumerate(circle):
        behind = circle[(place + 1) % len(circle)]
        between = detour(table, here, behind, left)
        if between:
            return circle[:place + 1] + between + circle[place + 1:]
    return circle


def detour(table, here, behind, left):
    for one in left:
        if table[here][one] and table[one][behind]:
            return [one]
    for one in left:
        for other in left:
            if table[here][one] and table[one][other] and table[other][behind]:
                return [one, other]
    return []
