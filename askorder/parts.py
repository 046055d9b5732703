"""Sets of things that stand together, and the parts of a table."""

from askorder.rings import rings


def stands_together(table, things):
    return len(parting(table, things)) == 0


def parting(table, things):
    return [other for other in range(len(table)) if other not in things and not sees_as_one(table, other, things)]


def sees_as_one(table, other, things):
    marks = [table[other][thing] for thing in things]
    return all(marks) or not any(marks)


def closure(table, things):
    # What beats some of a set and not all of it lies in each greater set that stands together.
    wider = sorted(set(things))
    further = parting(table, wider)
    while further:
        wider = sorted(wider + further)
        further = parting(table, wider)
    return wider


def parts(table):
    from_the_top = rings(table)
    if len(from_the_top) > 1:
        return from_the_top
    found = []
    for thing in range(len(table)):
        mates = greatest_with(table, thing)
        if mates not in found:
            found.append(mates)
    return found


def greatest_with(table, thing):
    # In a table of one ring the greatest sets do not meet: so two things lie in one of
    # them just where some set that is not all things holds both and stands together.
    return [other for other in range(len(table)) if other == thing or not leads_to_all(table, thing, other)]


def leads_to_all(table, thing, other):
    return len(closure(table, [thing, other])) == len(table)
