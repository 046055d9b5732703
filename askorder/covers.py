"""Which thing covers which, the uncovered things, and the reason for each two."""

from askorder.tables import beaten_by, beats_all


def covers(table, one, other):
    return table[one][other] and beats_all(table, one, beaten_by(table, other))


def uncovered(table):
    return [one for one in range(len(table)) if not is_covered(table, one)]


def is_covered(table, one):
    return any([covers(table, other, one) for other in range(len(table))])


def reason(table, one, other):
    if table[one][other]:
        return ("straight",)
    thirds = [third for third in beaten_by(table, one) if table[third][other]]
    if thirds:
        return ("over", thirds[0])
    # The other beats the one, and no thing that the one beats beats the other.
    return ("covered",)
