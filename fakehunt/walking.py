"""Walking a paper: whether it is kept, pair by pair."""

from fakehunt.common import are_within
from fakehunt.pairs import follow


def stands(triple, known):
    pair = triple[:2]
    return pair in known and are_within(known[pair], triple[2])


def is_walked(one, other, triple, known):
    triples = follow(one, other, triple[0], triple[1], triple[2])
    return triples is not None and all([stands(behind, known) for behind in triples])


def paper_kept(one, other, paper):
    known = {}
    for k, j, bits in paper:
        known[(k, j)] = bits
    if len(known) != len(paper) or (0, 0) not in known:
        return False
    return all([is_walked(one, other, triple, known) for triple in paper])
