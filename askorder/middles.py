"""Votes that lie on a line: the middle thing, and the order of all things by votes."""

from askorder.errors import NotAlike
from askorder.lines import all_fit
from askorder.rings import rings
from askorder.votes import table_of, voices


def line_asked(votes, many, line):
    if not all_fit(votes, many, line):
        raise NotAlike("some ballot does not fit the line")


def middle(votes, many, line):
    line_asked(votes, many, line)
    here = 0
    # The voices in all are odd: so one voice is the middle one.
    while 2 * voices_up_to(votes, line[:here + 1]) < voices(votes):
        here = here + 1
    return line[here]


def voices_up_to(votes, things):
    return voices([ballot for ballot in votes if ballot[1][0] in things])


def ranked(votes, many, line):
    line_asked(votes, many, line)
    # On a line each ring is one thing, and beats all rings below it.
    return [ring[0] for ring in rings(table_of(votes, many))]
