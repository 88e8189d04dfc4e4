"""Papers: pairs of places that show, where both programs stand so, that no input tells them."""

from fakehunt.common import all_bits
from fakehunt.pairs import follow


def found_paper(one, other):
    paper = {(0, 0): all_bits(one[1])}
    ahead = [(0, 0)]
    while len(ahead) > 0:
        pair = ahead.pop()
        triples = follow(one, other, pair[0], pair[1], paper[pair])
        # A pair at odds stays so with fewer bits, so there is no need to go on.
        if triples is None:
            return None
        for k, j, stay in triples:
            bits = stay & paper.get((k, j), stay)
            if paper.get((k, j)) != bits:
                paper[(k, j)] = bits
                ahead.append((k, j))
    return tuple([(k, j, paper[(k, j)]) for k, j in sorted(paper)])
