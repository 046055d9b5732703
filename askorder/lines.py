"""Lines: which ballots fit them, a line for all ballots, or what bars every line."""

from askorder.trees import order_asked
from askorder.votes import asked, puts_ahead


def fits(order, line):
    order_asked(line, len(order))
    return lies_on(order, line)


def lies_on(order, line):
    return all([are_side_by_side(order[:count], line) for count in range(1, len(order) + 1)])


def are_side_by_side(things, line):
    places = [line.index(thing) for thing in things]
    return max(places) - min(places) == len(things) - 1


def all_fit(votes, many, line):
    asked(votes, many)
    order_asked(line, many)
    return all([lies_on(ballot[1], line) for ballot in votes])


def line_of(votes, many):
    asked(votes, many)
    lines = lines_for(votes[0][1])
    for ballot in votes[1:]:
        lines = [line for line in lines if lies_on(ballot[1], line)]
    if lines:
        return ("line", lines[0])
    return bar_of(votes, many)


def lines_for(order):
    # On a line that an order fits each next thing lies at one of the two ends of
    # what lies there already: so these are all such lines.
    lines = [[order[0]]]
    for thing in order[1:]:
        lines = [[thing] + line for line in lines] + [line + [thing] for line in lines]
    return lines


def bar_of(votes, many):
    rising = [things for things in picks(3, many) if list(things) == sorted(things)]
    lasts = bar_among(votes, "lasts", rising)
    if lasts is not None:
        return lasts
    return bar_among(votes, "turned", picks(4, many))


def picks(count, many):
    found = [()]
    for step in range(count):
        found = with_one_more(found, many)
    return found


def with_one_more(found, many):
    longer = []
    for things in found:
        longer.extend([things + (thing,) for thing in range(many) if thing not in things])
    return longer


def bar_among(votes, kind, found):
    for things in found:
        places = first_places(votes, wanted_of(kind, things))
        if places is not None:
            return (kind, things, places)
    return None


def wanted_of(kind, things):
    # For each ballot of a bar: the pairs of which it puts the one ahead of the other.
    if kind == "lasts":
        return [pairs_with_last(things, last) for last in things]
    first = pairs_with_between(things[0], things[1], things[2], things[3])
    second = pairs_with_between(things[2], things[1], things[0], things[3])
    return [first, second]


def pairs_with_last(things, last):
    return [(thing, last) for thing in things if thing != last]


def pairs_with_between(one, between, other, above):
    return [(one, between), (between, other), (above, between)]


def first_places(votes, wanted):
    places = []
    for pairs in wanted:
        found = [place for place, ballot in enumerate(votes) if puts_all_ahead(ballot[1], pairs)]
        if not found:
            return None
        places.append(found[0])
    return tuple(places)


def puts_all_ahead(order, pairs):
    return all([puts_ahead(order, pair[0], pair[1]) for pair in pairs])


def shows_bar(votes, paper):
    if paper[0] not in ("lasts", "turned"):
        return False
    wanted = wanted_of(paper[0], paper[1])
    return all([puts_all_ahead(votes[place][1], pairs) for place, pairs in zip(paper[2], wanted)])
