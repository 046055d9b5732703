"""Crowns, and the papers that show of a thing that it is one or that it is none."""

from askorder.chains import beaters, is_chain, stands
from askorder.tables import beaten_by, beats_all


def crowns(table):
    return [thing for thing in range(len(table)) if crown_paper(table, thing)[0] == "chain"]


def crown_paper(table, thing):
    # What beats a chain beats all that is in it: so where a chain stands, the ended
    # chain that goes on from it stands too.
    chains = ended_chains(table, [thing], beaten_by(table, thing))
    for chain in chains:
        if stands(table, chain):
            return ("chain", chain)
    return ("beaten", [(chain, beaters(table, chain)[0]) for chain in chains])


def ended_chains(table, chain, further):
    # Further are just the things that all of the chain beats. Each chain that begins
    # with this one can be made longer at its end until it is one of those told here.
    if not further:
        return [chain]
    chains = []
    for thing in further:
        chains.extend(ended_chains(table, chain + [thing], [other for other in further if table[thing][other]]))
    return chains


def shows_crown(table, thing, paper):
    if paper[0] == "chain":
        return stands(table, paper[1]) and paper[1][0] == thing
    return paper[0] == "beaten" and shows_beaten(table, thing, paper[1])


def shows_beaten(table, thing, pairs):
    if not all([is_beaten(table, thing, pair[0], pair[1]) for pair in pairs]):
        return False
    # Each chain lies within an ended one: so no other chain needs to be looked for.
    chains = ended_chains(table, [thing], beaten_by(table, thing))
    return all([lies_in_some(chain, pairs) for chain in chains])


def is_beaten(table, thing, chain, beater):
    return is_chain(table, chain) and chain[0] == thing and beats_all(table, beater, chain)


def lies_in_some(chain, pairs):
    return any([lies_in(chain, pair[0]) for pair in pairs])


def lies_in(things, others):
    return all([thing in others for thing in things])
